import PyProof.Rows.All
import Wide.All
import OpenK.AllK
import Wide.FinOn
import PyProof.EqAt
import PyProof.EqKinds
import PyProof.TupleCall
import PyProof.NeKinds
import KE.KEqDict
import PySem.Challenge.RW_bedround_k01_gardens
set_option Elab.async false
set_option linter.all false
set_option maxRecDepth 100000
namespace L2
open PySem PySem.Spec PyProof.Rows
def aZ0 (s : Stmt) (j : Nat) : Stmt := match s with
 | .ClassDef _ _ _ body _ _ _ _ _ _ _ => body.getD j (.Pass ⟨0, 0, 0, 0⟩)
 | _ => .Pass ⟨0, 0, 0, 0⟩
def cf0 (s : Stmt) : Arguments := match s with
 | .FunctionDef _ a _ _ _ _ _ _ _ _ => a
 | _ => { posonlyargs := [], args := [], vararg := none, kwonlyargs := [], kw_defaults := [], kwarg := none, defaults := [] }
def bt0 (s : Stmt) : List Stmt := match s with
 | .FunctionDef _ _ b _ _ _ _ _ _ _ => b
 | _ => []
def af0 (s : Stmt) : Scope := match s with
 | .FunctionDef _ _ _ _ _ _ sc _ _ _ => sc
 | _ => { kind := .function, names := [], isGenerator := false, isCoroutine := false }
end L2
namespace Bed1
open PySem PySem.W PyProof.Rows L2
def top (i : Nat) : Stmt := PySem.Challenge.pw_bedround_k01_gardens.main.body.getD i (.Pass ⟨0, 0, 0, 0⟩)
abbrev Kr (n : Nat) : Value := .ref n
abbrev Ki (n : Nat) : Value := .int (Int.ofNat n) 0
abbrev Ks (x : String) (t : Nat) : Value := .str (.ofString x) t
abbrev Kp (t : Nat) : Value := Ks "/claim/cut.py" t
abbrev Ke (P : Params) (x : String) (t : Nat) (v : Value) : DictEntry := ⟨PyData.keyHash P (.ofString x), Ks x t, v⟩
abbrev Kt (l : Array Value) : Obj := ⟨.type "tuple", none, .seq l 0, #[]⟩
abbrev Kc (l : Array Value) : Obj := ⟨.type "code", none, .fields l, #[]⟩
abbrev Kd (l : Array DictEntry) (n : Nat) : Obj := ⟨.type "dict", none, .dict l n, #[]⟩
abbrev Kf (x q : Str) (st : Stmt) (m c : Value) : Obj := ⟨.type "function", none, .func (PySem.W.fnOf x q (cf0 st) (bt0 st) (af0 st) .none .none .none m none c .none), #[]⟩
def KK : Params -> PySem.W.Frag := fun P => (nat_lit 2, ⟨.none, none, (.dict #[] 0), #[]⟩) ::
(nat_lit 3, Kd #[Ke P "__name__" 165 (Ks "law_bedround_k01_gardens" 452), Ke P "__doc__" 166 .none, Ke P "__package__" 167 .none, Ke P "__loader__" 168 (.builtin "__main__.__loader__#opaque"), Ke P "__spec__" 169 .none, Ke P "__annotations__" 170 (Kr 6), Ke P "__builtins__" 171 (Kr 4), Ke P "__file__" 173 (Kp 172), Ke P "__cached__" 174 .none, Ke P "BedError" 206 (Kr 24), Ke P "BadGarden" 222 (Kr 37), Ke P "NoPlanting" 238 (Kr 49), Ke P "MOST_BEDS" 242 (.int 3 241), Ke P "MOST_CROPS" 244 (.int 5 243), Ke P "MOST_TOP" 246 (.int 5 245), Ke P "MOST_CHANGE" 248 (.int 3 247), Ke P "MOST_HARVEST" 250 (.int 1000 249), Ke P "MOST_GAP" 252 (.int 3 251), Ke P "MOST_WANTED" 254 (.int 3 253), Ke P "is_within" 263 (Kr 58), Ke P "check_within" 273 (Kr 65), Ke P "check_name" 281 (Kr 72), Ke P "check_beds" 290 (Kr 79), Ke P "check_crop" 297 (Kr 86), Ke P "check_crops" 307 (Kr 93), Ke P "check_wants" 317 (Kr 100), Ke P "names_of" 323 (Kr 105), Ke P "numbers_of" 329 (Kr 110), Ke P "lengthened" 335 (Kr 115), Ke P "Garden" 451 (Kr 190), Ke P "_law_cell_at" 461 (Kr 201), Ke P "_law_draw" 469 (Kr 208), Ke P "_law_whole" 476 (Kr 215), Ke P "_law_crop" 490 (Kr 222), Ke P "_law_wants" 503 (Kr 229), Ke P "_law_garden" 509 (Kr 234), Ke P "_law_beds" 518 (Kr 241), Ke P "_law_handed" 524 (Kr 246), Ke P "_law_memory" 530 (Kr 251), Ke P "_law_lets" 541 (Kr 258), Ke P "_law_wanted" 547 (Kr 263), Ke P "_law_longer" 558 (Kr 270), Ke P "_law_may" 564 (Kr 275), Ke P "_law_behind" 576 (Kr 282), Ke P "_law_start" 582 (Kr 287), Ke P "_law_gain" 588 (Kr 292), Ke P "law" 594 (Kr 297)] 47) ::
(nat_lit 15, Kt #[(.type "ValueError")]) ::
(nat_lit 22, Kt #[]) ::
(nat_lit 23, Kd #[Ke P "__module__" 196 (Ks "bedround.errors" 187), Ke P "__firstlineno__" 200 (.int 2 199), Ke P "__static_attributes__" 201 (Kr 22), Ke P "__weakref__" 203 (Kr 25), Ke P "__doc__" 204 .none] 3) ::
(nat_lit 24, ⟨(.type "type"), none, (.cls ⟨"BedError", [(.type "ValueError")], [(Kr 24), (.type "ValueError"), (.type "Exception"), (.type "BaseException"), (.type "object")], 23, "BedError", true, [], [(Kr 37), (Kr 49)], false, none, false⟩), #[(some (Kr 15)), none, (some (Ks "BedError" 189)), (some (Ks "BedError" 197)), (some (.builtin "ValueError.__new__")), (some (.bool true))]⟩) ::
(nat_lit 25, ⟨(.type "getset_descriptor"), none, (.fields #[(Ks "__weakref__" 202), (Kr 24), (.builtin "ExceptionGroup.__weakref__"), .none]), #[]⟩) ::
(nat_lit 28, Kt #[(Kr 24)]) ::
(nat_lit 35, Kt #[]) ::
(nat_lit 36, Kd #[Ke P "__module__" 214 (Ks "bedround.errors" 187), Ke P "__firstlineno__" 218 (.int 4 217), Ke P "__static_attributes__" 219 (Kr 35), Ke P "__doc__" 220 .none] 2) ::
(nat_lit 37, ⟨(.type "type"), none, (.cls ⟨"BadGarden", [(Kr 24)], [(Kr 37), (Kr 24), (.type "ValueError"), (.type "Exception"), (.type "BaseException"), (.type "object")], 36, "BadGarden", true, [], [], false, none, false⟩), #[(some (Kr 28)), none, (some (Ks "BadGarden" 207)), (some (Ks "BadGarden" 215)), (some (.builtin "ValueError.__new__")), (some (.bool true))]⟩) ::
(nat_lit 40, Kt #[(Kr 24)]) ::
(nat_lit 47, Kt #[]) ::
(nat_lit 48, Kd #[Ke P "__module__" 230 (Ks "bedround.errors" 187), Ke P "__firstlineno__" 234 (.int 6 233), Ke P "__static_attributes__" 235 (Kr 47), Ke P "__doc__" 236 .none] 2) ::
(nat_lit 49, ⟨(.type "type"), none, (.cls ⟨"NoPlanting", [(Kr 24)], [(Kr 49), (Kr 24), (.type "ValueError"), (.type "Exception"), (.type "BaseException"), (.type "object")], 48, "NoPlanting", true, [], [], false, none, false⟩), #[(some (Kr 40)), none, (some (Ks "NoPlanting" 223)), (some (Ks "NoPlanting" 231)), (some (.builtin "ValueError.__new__")), (some (.bool true))]⟩) ::
(nat_lit 52, Kt #[]) ::
(nat_lit 54, Kt #[(Ks "value" 258), (Ks "least" 259), (Ks "most" 260)]) ::
(nat_lit 55, Kt #[]) ::
(nat_lit 57, Kc #[(Ks "is_within" 255), (Ks "is_within" 256), (Kp 257), (Ki 16), (Ki 3), (Ki 0), (Ki 0), (Ki 3), (Kr 52), (.bool true), (Ki 181), (Kr 53), .none, (Kr 54), (Kr 55), (Kr 56), (Ki 261), (Ki 16), (Kp 262)]) ::
(nat_lit 58, Kf "is_within" "is_within" (top 12) (Ks "bedround.gardens" 239) (Kr 57)) ::
(nat_lit 59, Kt #[]) ::
(nat_lit 61, Kt #[(Ks "value" 267), (Ks "least" 268), (Ks "most" 269), (Ks "what" 270)]) ::
(nat_lit 62, Kt #[]) ::
(nat_lit 64, Kc #[(Ks "check_within" 264), (Ks "check_within" 265), (Kp 266), (Ki 20), (Ki 4), (Ki 0), (Ki 0), (Ki 3), (Kr 59), (.bool true), (Ki 181), (Kr 60), .none, (Kr 61), (Kr 62), (Kr 63), (Ki 271), (Ki 20), (Kp 272)]) ::
(nat_lit 65, Kf "check_within" "check_within" (top 13) (Ks "bedround.gardens" 239) (Kr 64)) ::
(nat_lit 66, Kt #[]) ::
(nat_lit 68, Kt #[(Ks "name" 277), (Ks "names" 278)]) ::
(nat_lit 69, Kt #[]) ::
(nat_lit 71, Kc #[(Ks "check_name" 274), (Ks "check_name" 275), (Kp 276), (Ki 23), (Ki 2), (Ki 0), (Ki 0), (Ki 3), (Kr 66), (.bool true), (Ki 181), (Kr 67), .none, (Kr 68), (Kr 69), (Kr 70), (Ki 279), (Ki 23), (Kp 280)]) ::
(nat_lit 72, Kf "check_name" "check_name" (top 14) (Ks "bedround.gardens" 239) (Kr 71)) ::
(nat_lit 73, Kt #[]) ::
(nat_lit 75, Kt #[(Ks "soils" 285), (Ks "top" 286), (Ks "soil" 287)]) ::
(nat_lit 76, Kt #[]) ::
(nat_lit 78, Kc #[(Ks "check_beds" 282), (Ks "check_beds" 283), (Kp 284), (Ki 26), (Ki 2), (Ki 0), (Ki 0), (Ki 3), (Kr 73), (.bool true), (Ki 181), (Kr 74), .none, (Kr 75), (Kr 76), (Kr 77), (Ki 288), (Ki 26), (Kp 289)]) ::
(nat_lit 79, Kf "check_beds" "check_beds" (top 15) (Ks "bedround.gardens" 239) (Kr 78)) ::
(nat_lit 80, Kt #[]) ::
(nat_lit 82, Kt #[(Ks "crop" 294)]) ::
(nat_lit 83, Kt #[]) ::
(nat_lit 85, Kc #[(Ks "check_crop" 291), (Ks "check_crop" 292), (Kp 293), (Ki 33), (Ki 1), (Ki 0), (Ki 0), (Ki 3), (Kr 80), (.bool true), (Ki 181), (Kr 81), .none, (Kr 82), (Kr 83), (Kr 84), (Ki 295), (Ki 33), (Kp 296)]) ::
(nat_lit 86, Kf "check_crop" "check_crop" (top 16) (Ks "bedround.gardens" 239) (Kr 85)) ::
(nat_lit 87, Kt #[]) ::
(nat_lit 89, Kt #[(Ks "crops" 301), (Ks "crop" 302), (Ks "names" 303), (Ks "name" 304)]) ::
(nat_lit 90, Kt #[]) ::
(nat_lit 92, Kc #[(Ks "check_crops" 298), (Ks "check_crops" 299), (Kp 300), (Ki 43), (Ki 1), (Ki 0), (Ki 0), (Ki 3), (Kr 87), (.bool true), (Ki 181), (Kr 88), .none, (Kr 89), (Kr 90), (Kr 91), (Ki 305), (Ki 43), (Kp 306)]) ::
(nat_lit 93, Kf "check_crops" "check_crops" (top 17) (Ks "bedround.gardens" 239) (Kr 92)) ::
(nat_lit 94, Kt #[]) ::
(nat_lit 96, Kt #[(Ks "wants" 311), (Ks "names" 312), (Ks "name" 313), (Ks "pair" 314)]) ::
(nat_lit 97, Kt #[]) ::
(nat_lit 99, Kc #[(Ks "check_wants" 308), (Ks "check_wants" 309), (Kp 310), (Ki 55), (Ki 2), (Ki 0), (Ki 0), (Ki 3), (Kr 94), (.bool true), (Ki 181), (Kr 95), .none, (Kr 96), (Kr 97), (Kr 98), (Ki 315), (Ki 55), (Kp 316)]) ::
(nat_lit 100, Kf "check_wants" "check_wants" (top 18) (Ks "bedround.gardens" 239) (Kr 99)) ::
(nat_lit 101, Kt #[]) ::
(nat_lit 104, Kc #[(Ks "names_of" 318), (Ks "names_of" 319), (Kp 320), (Ki 64), (Ki 1), (Ki 0), (Ki 0), (Ki 3), (Kr 101), (.bool true), (Ki 181), (Kr 102), .none, .none, .none, (Kr 103), (Ki 321), (Ki 64), (Kp 322)]) ::
(nat_lit 105, Kf "names_of" "names_of" (top 19) (Ks "bedround.gardens" 239) (Kr 104)) ::
(nat_lit 106, Kt #[]) ::
(nat_lit 109, Kc #[(Ks "numbers_of" 324), (Ks "numbers_of" 325), (Kp 326), (Ki 66), (Ki 2), (Ki 0), (Ki 0), (Ki 3), (Kr 106), (.bool true), (Ki 181), (Kr 107), .none, .none, .none, (Kr 108), (Ki 327), (Ki 66), (Kp 328)]) ::
(nat_lit 110, Kf "numbers_of" "numbers_of" (top 20) (Ks "bedround.gardens" 239) (Kr 109)) ::
(nat_lit 111, Kt #[]) ::
(nat_lit 114, Kc #[(Ks "lengthened" 330), (Ks "lengthened" 331), (Kp 332), (Ki 68), (Ki 2), (Ki 0), (Ki 0), (Ki 3), (Kr 111), (.bool true), (Ki 181), (Kr 112), .none, .none, .none, (Kr 113), (Ki 333), (Ki 68), (Kp 334)]) ::
(nat_lit 115, Kf "lengthened" "lengthened" (top 21) (Ks "bedround.gardens" 239) (Kr 114)) ::
(nat_lit 123, Kt #[]) ::
(nat_lit 126, Kc #[(Ks "__init__" 348), (Ks "Garden.__init__" 349), (Kp 350), (Ki 75), (Ki 5), (Ki 0), (Ki 0), (Ki 3), (Kr 123), (.bool true), (Ki 181), (Kr 124), .none, .none, .none, (Kr 125), (Ki 351), (Ki 75), (Kp 352)]) ::
(nat_lit 127, Kf "__init__" "Garden.__init__" (aZ0 (top 22) 0) (Ks "bedround.gardens" 239) (Kr 126)) ::
(nat_lit 128, Kt #[]) ::
(nat_lit 131, Kc #[(Ks "start" 354), (Ks "Garden.start" 355), (Kp 356), (Ki 89), (Ki 1), (Ki 0), (Ki 0), (Ki 3), (Kr 128), (.bool true), (Ki 181), (Kr 129), .none, .none, .none, (Kr 130), (Ki 357), (Ki 89), (Kp 358)]) ::
(nat_lit 132, Kf "start" "Garden.start" (aZ0 (top 22) 1) (Ks "bedround.gardens" 239) (Kr 131)) ::
(nat_lit 133, Kt #[]) ::
(nat_lit 136, Kc #[(Ks "may" 360), (Ks "Garden.may" 361), (Kp 362), (Ki 92), (Ki 2), (Ki 0), (Ki 0), (Ki 3), (Kr 133), (.bool true), (Ki 181), (Kr 134), .none, .none, .none, (Kr 135), (Ki 363), (Ki 92), (Kp 364)]) ::
(nat_lit 137, Kf "may" "Garden.may" (aZ0 (top 22) 2) (Ks "bedround.gardens" 239) (Kr 136)) ::
(nat_lit 138, Kt #[]) ::
(nat_lit 140, Kt #[(Ks "self" 369), (Ks "state" 370), (Ks "planting" 371)]) ::
(nat_lit 141, Kt #[]) ::
(nat_lit 143, Kc #[(Ks "behind" 366), (Ks "Garden.behind" 367), (Kp 368), (Ki 98), (Ki 3), (Ki 0), (Ki 0), (Ki 3), (Kr 138), (.bool true), (Ki 181), (Kr 139), .none, (Kr 140), (Kr 141), (Kr 142), (Ki 372), (Ki 98), (Kp 373)]) ::
(nat_lit 144, Kf "behind" "Garden.behind" (aZ0 (top 22) 3) (Ks "bedround.gardens" 239) (Kr 143)) ::
(nat_lit 145, Kt #[]) ::
(nat_lit 148, Kc #[(Ks "harvest" 375), (Ks "Garden.harvest" 376), (Kp 377), (Ki 103), (Ki 2), (Ki 0), (Ki 0), (Ki 3), (Kr 145), (.bool true), (Ki 181), (Kr 146), .none, .none, .none, (Kr 147), (Ki 378), (Ki 103), (Kp 379)]) ::
(nat_lit 149, Kf "harvest" "Garden.harvest" (aZ0 (top 22) 4) (Ks "bedround.gardens" 239) (Kr 148)) ::
(nat_lit 150, Kt #[]) ::
(nat_lit 153, Kc #[(Ks "crops_for" 381), (Ks "Garden.crops_for" 382), (Kp 383), (Ki 106), (Ki 3), (Ki 0), (Ki 0), (Ki 3), (Kr 150), (.bool true), (Ki 181), (Kr 151), .none, .none, .none, (Kr 152), (Ki 384), (Ki 106), (Kp 385)]) ::
(nat_lit 154, Kf "crops_for" "Garden.crops_for" (aZ0 (top 22) 5) (Ks "bedround.gardens" 239) (Kr 153)) ::
(nat_lit 155, Kt #[]) ::
(nat_lit 157, Kt #[(Ks "self" 390), (Ks "soil" 391), (Ks "stood" 392), (Ks "crop" 393)]) ::
(nat_lit 158, Kt #[]) ::
(nat_lit 160, Kc #[(Ks "lets" 387), (Ks "Garden.lets" 388), (Kp 389), (Ki 109), (Ki 4), (Ki 0), (Ki 0), (Ki 3), (Kr 155), (.bool true), (Ki 181), (Kr 156), .none, (Kr 157), (Kr 158), (Kr 159), (Ki 394), (Ki 109), (Kp 395)]) ::
(nat_lit 161, Kf "lets" "Garden.lets" (aZ0 (top 22) 6) (Ks "bedround.gardens" 239) (Kr 160)) ::
(nat_lit 162, Kt #[]) ::
(nat_lit 164, Kt #[(Ks "self" 400), (Ks "planting" 401), (Ks "crop" 402), (Ks "least" 403), (Ks "most" 404)]) ::
(nat_lit 165, Kt #[]) ::
(nat_lit 167, Kc #[(Ks "meets_wants" 397), (Ks "Garden.meets_wants" 398), (Kp 399), (Ki 116), (Ki 2), (Ki 0), (Ki 0), (Ki 3), (Kr 162), (.bool true), (Ki 181), (Kr 163), .none, (Kr 164), (Kr 165), (Kr 166), (Ki 405), (Ki 116), (Kp 406)]) ::
(nat_lit 168, Kf "meets_wants" "Garden.meets_wants" (aZ0 (top 22) 7) (Ks "bedround.gardens" 239) (Kr 167)) ::
(nat_lit 169, Kt #[]) ::
(nat_lit 171, Kt #[(Ks "self" 411), (Ks "state" 412), (Ks "planting" 413), (Ks "bed" 414), (Ks "crop" 415)]) ::
(nat_lit 172, Kt #[]) ::
(nat_lit 174, Kc #[(Ks "fits" 408), (Ks "Garden.fits" 409), (Kp 410), (Ki 122), (Ki 3), (Ki 0), (Ki 0), (Ki 3), (Kr 169), (.bool true), (Ki 181), (Kr 170), .none, (Kr 171), (Kr 172), (Kr 173), (Ki 416), (Ki 122), (Kp 417)]) ::
(nat_lit 175, Kf "fits" "Garden.fits" (aZ0 (top 22) 8) (Ks "bedround.gardens" 239) (Kr 174)) ::
(nat_lit 176, Kt #[]) ::
(nat_lit 179, Kc #[(Ks "beds_behind" 419), (Ks "Garden.beds_behind" 420), (Kp 421), (Ki 132), (Ki 3), (Ki 0), (Ki 0), (Ki 3), (Kr 176), (.bool true), (Ki 181), (Kr 177), .none, .none, .none, (Kr 178), (Ki 422), (Ki 132), (Kp 423)]) ::
(nat_lit 180, Kf "beds_behind" "Garden.beds_behind" (aZ0 (top 22) 9) (Ks "bedround.gardens" 239) (Kr 179)) ::
(nat_lit 181, Kt #[]) ::
(nat_lit 183, Kt #[(Ks "self" 428), (Ks "soil" 429), (Ks "stood" 430), (Ks "crop" 431), (Ks "row" 432)]) ::
(nat_lit 184, Kt #[]) ::
(nat_lit 186, Kc #[(Ks "bed_behind" 425), (Ks "Garden.bed_behind" 426), (Kp 427), (Ki 135), (Ki 4), (Ki 0), (Ki 0), (Ki 3), (Kr 181), (.bool true), (Ki 181), (Kr 182), .none, (Kr 183), (Kr 184), (Kr 185), (Ki 433), (Ki 135), (Kp 434)]) ::
(nat_lit 187, Kf "bed_behind" "Garden.bed_behind" (aZ0 (top 22) 10) (Ks "bedround.gardens" 239) (Kr 186)) ::
(nat_lit 188, Kt #[(Ks "bars" 436), (Ks "changes" 437), (Ks "depth" 438), (Ks "gaps" 439), (Ks "harvests" 440), (Ks "soils" 441), (Ks "top" 442), (Ks "wants" 443)]) ::
(nat_lit 189, Kd #[Ke P "__module__" 343 (Ks "bedround.gardens" 239), Ke P "__firstlineno__" 347 (.int 73 346), Ke P "__init__" 353 (Kr 127), Ke P "start" 359 (Kr 132), Ke P "may" 365 (Kr 137), Ke P "behind" 374 (Kr 144), Ke P "harvest" 380 (Kr 149), Ke P "crops_for" 386 (Kr 154), Ke P "lets" 396 (Kr 161), Ke P "meets_wants" 407 (Kr 168), Ke P "fits" 418 (Kr 175), Ke P "beds_behind" 424 (Kr 180), Ke P "bed_behind" 435 (Kr 187), Ke P "__static_attributes__" 444 (Kr 188), Ke P "__dict__" 446 (Kr 191), Ke P "__weakref__" 448 (Kr 192), Ke P "__doc__" 449 .none] 4) ::
(nat_lit 190, ⟨(.type "type"), none, (.cls ⟨"Garden", [(.type "object")], [(Kr 190), (.type "object")], 189, "Garden", true, [], [], false, none, false⟩), #[none, none, (some (Ks "Garden" 336)), (some (Ks "Garden" 344)), (some (.builtin "object.__new__")), (some (.bool true))]⟩) ::
(nat_lit 191, ⟨(.type "getset_descriptor"), none, (.fields #[(Ks "__dict__" 445), (Kr 190), (.builtin "function.__dict__"), (.builtin "function.__dict__#set")]), #[]⟩) ::
(nat_lit 192, ⟨(.type "getset_descriptor"), none, (.fields #[(Ks "__weakref__" 447), (Kr 190), (.builtin "ExceptionGroup.__weakref__"), .none]), #[]⟩) ::
(nat_lit 195, Kt #[]) ::
(nat_lit 197, Kt #[(Ks "script" 457), (Ks "k" 458)]) ::
(nat_lit 198, Kt #[]) ::
(nat_lit 200, Kc #[(Ks "_law_cell_at" 454), (Ks "_law_cell_at" 455), (Kp 456), (Ki 139), (Ki 2), (Ki 0), (Ki 0), (Ki 3), (Kr 195), (.bool true), (Ki 181), (Kr 196), .none, (Kr 197), (Kr 198), (Kr 199), (Ki 459), (Ki 139), (Kp 460)]) ::
(nat_lit 201, Kf "_law_cell_at" "_law_cell_at" (top 24) (Ks "law_bedround_k01_gardens" 452) (Kr 200)) ::
(nat_lit 202, Kt #[]) ::
(nat_lit 204, Kt #[(Ks "script" 465), (Ks "k" 466)]) ::
(nat_lit 205, Kt #[]) ::
(nat_lit 207, Kc #[(Ks "_law_draw" 462), (Ks "_law_draw" 463), (Kp 464), (Ki 143), (Ki 2), (Ki 0), (Ki 0), (Ki 3), (Kr 202), (.bool true), (Ki 181), (Kr 203), .none, (Kr 204), (Kr 205), (Kr 206), (Ki 467), (Ki 143), (Kp 468)]) ::
(nat_lit 208, Kf "_law_draw" "_law_draw" (top 25) (Ks "law_bedround_k01_gardens" 452) (Kr 207)) ::
(nat_lit 209, Kt #[]) ::
(nat_lit 211, Kt #[(Ks "found" 473)]) ::
(nat_lit 212, Kt #[]) ::
(nat_lit 214, Kc #[(Ks "_law_whole" 470), (Ks "_law_whole" 471), (Kp 472), (Ki 145), (Ki 1), (Ki 0), (Ki 0), (Ki 3), (Kr 209), (.bool true), (Ki 181), (Kr 210), .none, (Kr 211), (Kr 212), (Kr 213), (Ki 474), (Ki 145), (Kp 475)]) ::
(nat_lit 215, Kf "_law_whole" "_law_whole" (top 26) (Ks "law_bedround_k01_gardens" 452) (Kr 214)) ::
(nat_lit 216, Kt #[]) ::
(nat_lit 218, Kt #[(Ks "script" 480), (Ks "k" 481), (Ks "names" 482), (Ks "gaps" 483), (Ks "bars" 484), (Ks "j" 485), (Ks "harvest" 486), (Ks "change" 487)]) ::
(nat_lit 219, Kt #[]) ::
(nat_lit 221, Kc #[(Ks "_law_crop" 477), (Ks "_law_crop" 478), (Kp 479), (Ki 147), (Ki 4), (Ki 0), (Ki 0), (Ki 3), (Kr 216), (.bool true), (Ki 181), (Kr 217), .none, (Kr 218), (Kr 219), (Kr 220), (Ki 488), (Ki 147), (Kp 489)]) ::
(nat_lit 222, Kf "_law_crop" "_law_crop" (top 27) (Ks "law_bedround_k01_gardens" 452) (Kr 221)) ::
(nat_lit 223, Kt #[]) ::
(nat_lit 225, Kt #[(Ks "script" 494), (Ks "names" 495), (Ks "beds" 496), (Ks "wants" 497), (Ks "k" 498), (Ks "cell" 499), (Ks "least" 500)]) ::
(nat_lit 226, Kt #[]) ::
(nat_lit 228, Kc #[(Ks "_law_wants" 491), (Ks "_law_wants" 492), (Kp 493), (Ki 155), (Ki 3), (Ki 0), (Ki 0), (Ki 3), (Kr 223), (.bool true), (Ki 181), (Kr 224), .none, (Kr 225), (Kr 226), (Kr 227), (Ki 501), (Ki 155), (Kp 502)]) ::
(nat_lit 229, Kf "_law_wants" "_law_wants" (top 28) (Ks "law_bedround_k01_gardens" 452) (Kr 228)) ::
(nat_lit 230, Kt #[]) ::
(nat_lit 233, Kc #[(Ks "_law_garden" 504), (Ks "_law_garden" 505), (Kp 506), (Ki 163), (Ki 2), (Ki 0), (Ki 0), (Ki 3), (Kr 230), (.bool true), (Ki 181), (Kr 231), .none, .none, .none, (Kr 232), (Ki 507), (Ki 163), (Kp 508)]) ::
(nat_lit 234, Kf "_law_garden" "_law_garden" (top 29) (Ks "law_bedround_k01_gardens" 452) (Kr 233)) ::
(nat_lit 235, Kt #[]) ::
(nat_lit 237, Kt #[(Ks "script" 513), (Ks "most" 514), (Ks "cell" 515)]) ::
(nat_lit 238, Kt #[]) ::
(nat_lit 240, Kc #[(Ks "_law_beds" 510), (Ks "_law_beds" 511), (Kp 512), (Ki 178), (Ki 2), (Ki 0), (Ki 0), (Ki 3), (Kr 235), (.bool true), (Ki 181), (Kr 236), .none, (Kr 237), (Kr 238), (Kr 239), (Ki 516), (Ki 178), (Kp 517)]) ::
(nat_lit 241, Kf "_law_beds" "_law_beds" (top 30) (Ks "law_bedround_k01_gardens" 452) (Kr 240)) ::
(nat_lit 242, Kt #[]) ::
(nat_lit 245, Kc #[(Ks "_law_handed" 519), (Ks "_law_handed" 520), (Kp 521), (Ki 185), (Ki 1), (Ki 0), (Ki 0), (Ki 3), (Kr 242), (.bool true), (Ki 181), (Kr 243), .none, .none, .none, (Kr 244), (Ki 522), (Ki 185), (Kp 523)]) ::
(nat_lit 246, Kf "_law_handed" "_law_handed" (top 31) (Ks "law_bedround_k01_gardens" 452) (Kr 245)) ::
(nat_lit 247, Kt #[]) ::
(nat_lit 250, Kc #[(Ks "_law_memory" 525), (Ks "_law_memory" 526), (Kp 527), (Ki 188), (Ki 1), (Ki 0), (Ki 0), (Ki 3), (Kr 247), (.bool true), (Ki 181), (Kr 248), .none, .none, .none, (Kr 249), (Ki 528), (Ki 188), (Kp 529)]) ::
(nat_lit 251, Kf "_law_memory" "_law_memory" (top 32) (Ks "law_bedround_k01_gardens" 452) (Kr 250)) ::
(nat_lit 252, Kt #[]) ::
(nat_lit 254, Kt #[(Ks "plot" 534), (Ks "bed" 535), (Ks "number" 536), (Ks "crop" 537), (Ks "k" 538)]) ::
(nat_lit 255, Kt #[]) ::
(nat_lit 257, Kc #[(Ks "_law_lets" 531), (Ks "_law_lets" 532), (Kp 533), (Ki 190), (Ki 3), (Ki 0), (Ki 0), (Ki 3), (Kr 252), (.bool true), (Ki 181), (Kr 253), .none, (Kr 254), (Kr 255), (Kr 256), (Ki 539), (Ki 190), (Kp 540)]) ::
(nat_lit 258, Kf "_law_lets" "_law_lets" (top 33) (Ks "law_bedround_k01_gardens" 452) (Kr 257)) ::
(nat_lit 259, Kt #[]) ::
(nat_lit 262, Kc #[(Ks "_law_wanted" 542), (Ks "_law_wanted" 543), (Kp 544), (Ki 198), (Ki 2), (Ki 0), (Ki 0), (Ki 3), (Kr 259), (.bool true), (Ki 181), (Kr 260), .none, .none, .none, (Kr 261), (Ki 545), (Ki 198), (Kp 546)]) ::
(nat_lit 263, Kf "_law_wanted" "_law_wanted" (top 34) (Ks "law_bedround_k01_gardens" 452) (Kr 262)) ::
(nat_lit 264, Kt #[]) ::
(nat_lit 266, Kt #[(Ks "rows" 551), (Ks "numbers" 552), (Ks "longer" 553), (Ks "row" 554), (Ks "number" 555)]) ::
(nat_lit 267, Kt #[]) ::
(nat_lit 269, Kc #[(Ks "_law_longer" 548), (Ks "_law_longer" 549), (Kp 550), (Ki 204), (Ki 2), (Ki 0), (Ki 0), (Ki 3), (Kr 264), (.bool true), (Ki 181), (Kr 265), .none, (Kr 266), (Kr 267), (Kr 268), (Ki 556), (Ki 204), (Kp 557)]) ::
(nat_lit 270, Kf "_law_longer" "_law_longer" (top 35) (Ks "law_bedround_k01_gardens" 452) (Kr 269)) ::
(nat_lit 271, Kt #[]) ::
(nat_lit 274, Kc #[(Ks "_law_may" 559), (Ks "_law_may" 560), (Kp 561), (Ki 210), (Ki 2), (Ki 0), (Ki 0), (Ki 3), (Kr 271), (.bool true), (Ki 181), (Kr 272), .none, .none, .none, (Kr 273), (Ki 562), (Ki 210), (Kp 563)]) ::
(nat_lit 275, Kf "_law_may" "_law_may" (top 36) (Ks "law_bedround_k01_gardens" 452) (Kr 274)) ::
(nat_lit 276, Kt #[]) ::
(nat_lit 278, Kt #[(Ks "plot" 568), (Ks "state" 569), (Ks "planting" 570), (Ks "beds" 571), (Ks "k" 572), (Ks "soil" 573)]) ::
(nat_lit 279, Kt #[]) ::
(nat_lit 281, Kc #[(Ks "_law_behind" 565), (Ks "_law_behind" 566), (Kp 567), (Ki 215), (Ki 3), (Ki 0), (Ki 0), (Ki 3), (Kr 276), (.bool true), (Ki 181), (Kr 277), .none, (Kr 278), (Kr 279), (Kr 280), (Ki 574), (Ki 215), (Kp 575)]) ::
(nat_lit 282, Kf "_law_behind" "_law_behind" (top 37) (Ks "law_bedround_k01_gardens" 452) (Kr 281)) ::
(nat_lit 283, Kt #[]) ::
(nat_lit 286, Kc #[(Ks "_law_start" 577), (Ks "_law_start" 578), (Kp 579), (Ki 221), (Ki 1), (Ki 0), (Ki 0), (Ki 3), (Kr 283), (.bool true), (Ki 181), (Kr 284), .none, .none, .none, (Kr 285), (Ki 580), (Ki 221), (Kp 581)]) ::
(nat_lit 287, Kf "_law_start" "_law_start" (top 38) (Ks "law_bedround_k01_gardens" 452) (Kr 286)) ::
(nat_lit 288, Kt #[]) ::
(nat_lit 291, Kc #[(Ks "_law_gain" 583), (Ks "_law_gain" 584), (Kp 585), (Ki 223), (Ki 2), (Ki 0), (Ki 0), (Ki 3), (Kr 288), (.bool true), (Ki 181), (Kr 289), .none, .none, .none, (Kr 290), (Ki 586), (Ki 223), (Kp 587)]) ::
(nat_lit 292, Kf "_law_gain" "_law_gain" (top 39) (Ks "law_bedround_k01_gardens" 452) (Kr 291)) ::
(nat_lit 293, Kt #[]) ::
(nat_lit 296, Kc #[(Ks "law" 589), (Ks "law" 590), (Kp 591), (Ki 225), (Ki 1), (Ki 0), (Ki 0), (Ki 3), (Kr 293), (.bool true), (Ki 181), (Kr 294), .none, .none, .none, (Kr 295), (Ki 592), (Ki 225), (Kp 593)]) ::
(nat_lit 297, Kf "law" "law" (top 40) (Ks "law_bedround_k01_gardens" 452) (Kr 296)) :: []
def KA : List Nat := [2, 3, 15, 22, 23, 24, 25, 28, 35, 36, 37, 40, 47, 48, 49, 52, 54, 55, 57, 58, 59, 61, 62, 64, 65, 66, 68, 69, 71, 72, 73, 75, 76, 78, 79, 80, 82, 83, 85, 86, 87, 89, 90, 92, 93, 94, 96, 97, 99, 100, 101, 104, 105, 106, 109, 110, 111, 114, 115, 123, 126, 127, 128, 131, 132, 133, 136, 137, 138, 140, 141, 143, 144, 145, 148, 149, 150, 153, 154, 155, 157, 158, 160, 161, 162, 164, 165, 167, 168, 169, 171, 172, 174, 175, 176, 179, 180, 181, 183, 184, 186, 187, 188, 189, 190, 191, 192, 195, 197, 198, 200, 201, 202, 204, 205, 207, 208, 209, 211, 212, 214, 215, 216, 218, 219, 221, 222, 223, 225, 226, 228, 229, 230, 233, 234, 235, 237, 238, 240, 241, 242, 245, 246, 247, 250, 251, 252, 254, 255, 257, 258, 259, 262, 263, 264, 266, 267, 269, 270, 271, 274, 275, 276, 278, 279, 281, 282, 283, 286, 287, 288, 291, 292, 293, 296, 297]
theorem KE (P : Params) : KA = (KK P).map (·.1) := by kernel_rfl
def qv : Program := { PySem.Challenge.pw_bedround_k01_gardens with main := { PySem.Challenge.pw_bedround_k01_gardens.main with body := [top 1, top 2, top 3, top 5, top 6, top 7, top 8, top 9, top 10, top 11, top 12, top 13, top 14, top 15, top 16, top 17, top 18, top 19, top 20, top 21, top 22, top 24, top 25, top 26, top 27, top 28, top 29, top 30, top 31, top 32, top 33, top 34, top 35, top 36, top 37, top 38, top 39, top 40] } }
theorem HL : PySem.W.LeftO (PySem.Challenge.rw_bedround_k01_gardens.row).prog qv [] (fun s => PySem.W.xlAt qv [] s && PySem.W.recOk (RowW.records (PySem.Challenge.rw_bedround_k01_gardens.row).toRowW) s) (PySem.W.Hook.obs (PySem.W.kHook KK KA KE)) (PySem.W.Hook.val (PySem.W.kHook KK KA KE)) 4192 := by
 intro w
 kernel_rfl
end Bed1
namespace L2
open PySem PySem.Spec PyProof.Rows
abbrev Key := Sum Int Str
def hM0 : Key -> Value -> Bool
 | .inl k, v => Value.isInt k v
 | .inr x, v => Value.isStrOf x v
def keyH (w : World) : Key -> Int
 | .inl k => hashInt k
 | .inr x => hashStr w x
theorem aU0 : ∀ {k : Key} {v : Value}, hM0 k v = true -> (∃ i t, k = Sum.inl i /\ v = Value.int i t) \/ (∃ x t, k = Sum.inr x /\ v = Value.str x t)
 | .inl i, v, h => by
  obtain ⟨t, e⟩ := Value.isInt_shape (k := i) (v := v) h
  exact .inl ⟨i, t, rfl, e⟩
 | .inr x, v, h => by
  obtain ⟨t, e⟩ := Value.isStrOf_shape (x := x) (v := v) h
  exact .inr ⟨x, t, rfl, e⟩
theorem iV0 (i : Int) (t : Tok) : hM0 (.inl i) (.int i t) = true := by simp [hM0, Value.isInt]
theorem jP0 (x : Str) (t : Tok) : hM0 (.inr x) (.str x t) = true := by simp [hM0, Value.isStrOf]
theorem ou0 (a b : Int) : decide ((Sum.inl a : Key) = Sum.inl b) = (a == b) := by
 by_cases e : a = b
 ·subst e; simp
 ·have h : ¬ (Sum.inl a : Key) = Sum.inl b := fun q => e (Sum.inl.inj q)
  rw [decide_eq_false h]
  exact (beq_eq_false_iff_ne.mpr e).symm
theorem mE0 (a b : Str) : decide ((Sum.inr a : Key) = Sum.inr b) = decide (a = b) := by
 by_cases e : a = b
 ·subst e; simp
 ·have h : ¬ (Sum.inr a : Key) = Sum.inr b := fun q => e (Sum.inr.inj q)
  rw [decide_eq_false h, decide_eq_false e]
theorem oz0 (a : Int) (b : Str) : decide ((Sum.inl a : Key) = Sum.inr b) = false := decide_eq_false (fun q => nomatch q)
theorem oF0 (a : Str) (b : Int) : decide ((Sum.inr a : Key) = Sum.inl b) = false := decide_eq_false (fun q => nomatch q)
def aH0 (prog : Program) (w : World) : PySem.KeyKind prog w Key where
 is := hM0
 hash := keyH w
 inj := fun v a b ha hb => by
  rcases aU0 ha with ⟨i, t, rfl, rfl⟩ | ⟨x, t, rfl, rfl⟩
  ·rcases aU0 hb with ⟨j, u, rfl, e⟩ | ⟨y, u, rfl, e⟩
   ·injection e with e1 _; rw [e1]
   ·exact nomatch e
  ·rcases aU0 hb with ⟨j, u, rfl, e⟩ | ⟨y, u, rfl, e⟩
   ·exact nomatch e
   ·injection e with e1 _; rw [e1]
 byValue := fun k v h => by
  rcases aU0 h with ⟨i, t, rfl, rfl⟩ | ⟨x, t, rfl, rfl⟩ <;> rfl
 pyHash := fun hv h => by
  rcases aU0 hv with ⟨i, t, rfl, rfl⟩ | ⟨x, t, rfl, rfl⟩
  ·exact wpAny_pyHash_int h
  ·exact wpAny_pyHash_str h
 eqBool := fun hu hv h => by
  rcases aU0 hu with ⟨i, t, rfl, rfl⟩ | ⟨x, t, rfl, rfl⟩
  ·rcases aU0 hv with ⟨j, u, rfl, rfl⟩ | ⟨y, u, rfl, rfl⟩
   ·rw [ou0] at h; exact wpAny_eqBool_int h
   ·rw [oz0] at h; exact SeqAt.EqAt.int_str i t y u _ _ _ _ h
  ·rcases aU0 hv with ⟨j, u, rfl, rfl⟩ | ⟨y, u, rfl, rfl⟩
   ·rw [oF0] at h; exact SeqAt.EqAt.str_int x t j u _ _ _ _ h
   ·rw [mE0] at h; exact wpAny_eqBool_str h
 «strs» := fun k x t v h => by
  rcases aU0 h with ⟨i, u, rfl, e⟩ | ⟨y, u, rfl, e⟩
  ·exact nomatch e
  ·injection e with e1 _
   subst e1
   cases v <;> rfl
theorem gf0 (prog : Program) (w : World) (i : Int) (t : Tok) : (aH0 prog w).is (.inl i) (.int i t) = true := iV0 i t
theorem gk0 (prog : Program) (w : World) (x : Str) (t : Tok) : (aH0 prog w).is (.inr x) (.str x t) = true := jP0 x t
end L2
namespace L2
open PySem PySem.Spec PyProof.Rows
inductive V where
 | non | bl (b : Bool) | int (i : Int) | str (x : Str) | byt (b : Array UInt8) | flt (b : UInt64) | ref (a : Addr) | ty (n : String)
 deriving DecidableEq
def RelV : V -> Value -> Prop
 | .non, u => u = Value.none
 | .bl b, u => u = Value.bool b
 | .int i, u => ∃ t, u = Value.int i t
 | .str x, u => ∃ t, u = Value.str x t
 | .byt b, u => ∃ t, u = Value.bytes b t
 | .flt b, u => ∃ t, u = Value.float b t
 | .ref a, u => u = Value.ref a
 | .ty n, u => u = Value.type n
abbrev Vals : List V -> List Value -> Prop := Paired RelV
theorem Vals.length {xs : List V} {us : List Value} (r : Vals xs us) : xs.length = us.length := Paired.length r
theorem Vals.get : ∀ {xs : List V} {us : List Value} {i : Nat} {x : V}, Vals xs us -> xs[i]? = some x -> ∃ u, us[i]? = some u /\ RelV x u
 | _, _, _, _, .nil, e => by simp at e
 | _, _, 0, _, .cons r _, e => by simp at e; subst e; exact ⟨_, rfl, r⟩
 | _, _, i + 1, x, .cons _ t, e => by
  obtain ⟨u, h1, h2⟩ := Vals.get (i := i) (x := x) t (by simpa using e)
  exact ⟨u, by simpa using h1, h2⟩
theorem Vals.append : ∀ {xs ys : List V} {us ws : List Value}, Vals xs us -> Vals ys ws -> Vals (xs ++ ys) (us ++ ws)
 | _, _, _, _, .nil, s => s
 | _, _, _, _, .cons r t, s => .cons r (Vals.append t s)
theorem Vals.take : ∀ {xs : List V} {us : List Value} (n : Nat), Vals xs us -> Vals (xs.take n) (us.take n)
 | _, _, 0, _ => .nil
 | _, _, _ + 1, .nil => .nil
 | _, _, n + 1, .cons r t => .cons r (Vals.take n t)
theorem Vals.drop : ∀ {xs : List V} {us : List Value} (n : Nat), Vals xs us -> Vals (xs.drop n) (us.drop n)
 | _, _, 0, r => r
 | _, _, _ + 1, .nil => .nil
 | _, _, n + 1, .cons _ t => Vals.drop n t
def RelO : Option V -> Option Value -> Prop
 | some v, some u => RelV v u
 | none, none => True
 | _, _ => False
def KV {κ : Type} : List (κ × V) -> List (κ × Value) -> Prop := Paired fun (p : κ × V) (q : κ × Value) => p.1 = q.1 /\ RelV p.2 q.2
def kV : Key -> V
 | .inl i => .int i
 | .inr x => .str x
inductive HO where
 /-- a list -/
 | lst (xs : List V)
 /-- a tuple (never changes) -/
 | tup (xs : List V)
 /-- a dict whose keys are ints and texts; one whose keys are tuples of ints and texts (the empty one is both) -/
 | dK (kvs : List (Key × V)) | dT (kvs : List (List Key × V))
 /-- a set of ints: its members, its size -/
 | set (S : Int -> Bool) (n : Nat)
 /-- an instance of the class at C, its dict at dx, its attributes -/
 | ins (C dx : Addr) (fs : List (Str × V))
 /-- the dict of the instance at x -/
 | own (x : Addr)
 /-- the dict of an exception -/
 | xd (fs : List (Str × V))
 /-- a bound method, f of x -/
 | met (f x : Addr)
 /-- a range object lo, lo + 1, .. below hi -/
 | rng (lo hi : Int)
 /-- a thing that is known to the object (the script; a dict while a loop walks it): read, never written while it is so -/
 | frz (o : Obj) (u : HO)
 /-- a code object's table -/
 | tbl (ps : Array Value)
 /-- any other thing, by what is true of its one object (a def of one's own: SetO a S n := HO.ext fun h => ..) -/
 | ext (φ : Heap -> Prop)
abbrev Hp := Addr -> Option HO
def upd (H : Hp) (a : Addr) (o : HO) : Hp := fun b => if b = a then some o else H b
theorem aq0 {H : Hp} {a : Addr} {o : HO} : upd H a o a = some o := by unfold upd; rw [if_pos rfl]
theorem an0 {H : Hp} {a b : Addr} {o : HO} (h : b ≠ a) : upd H a o b = H b := by unfold upd; rw [if_neg h]
theorem ne_of {H : Hp} {a b : Addr} {o u : HO} (h : H a = some o) (h' : H b = some u) (d : o ≠ u) : a ≠ b := by
 intro e; subst e; rw [h] at h'; exact d (Option.some.inj h')
theorem au0 {H : Hp} {a b : Addr} {o : HO} (h : H a = some o) (h' : H b = none) : a ≠ b := by
 intro e; subst e; rw [h] at h'; cases h'
section
variable (P : Program) (w : World)
def ObjOk (H : Hp) (h : Heap) (a : Addr) : HO -> Prop
 | .lst xs => xs.length <= sizeLine /\ ∃ (its : List Value) (n : Nat), Vals xs its /\ h.get? a = some { cls := .type "list", data := .seq its.toArray n }
 | .tup xs => xs.length <= sizeLine /\ ∃ its : List Value, Vals xs its /\ IsTup h a its.toArray /\ ∃ ob, h.get? a = some ob /\ ob.dict = none
 | .dK kvs => kvs.length <= sizeLine /\ (a == sysModules) = false /\ ∃ vs, KV kvs vs /\ h.DictOf (aH0 P w) a vs
 | .dT kvs => kvs.length <= sizeLine /\ (a == sysModules) = false /\ ∃ xs : List (List Key × Addr × Value),
   Paired (fun (p : List Key × V) (q : List Key × Addr × Value) => p.1 = q.1 /\ H q.2.1 = some (.tup (p.1.map kV)) /\ RelV p.2 q.2.2) kvs xs /\
   ∃ o es ep, h.get? a = some o /\ o.ExactDict /\ o.data = .dict es ep /\ es.toList = xs.map (entryOfKey (tupleKind (aH0 P w))) /\ (xs.map (·.1)).Nodup
 | .set S n => h.SetOf (intKind P w) a S n
 | .ins C dx fs => H dx = some (.own a) /\ fs.length <= 1000 /\ dx ≠ a /\ h.get? a = some (PySem.W.instObj C dx) /\
   ∃ mA, h.Ns1 dx mA /\ (∀ f, RelO (fs.lookup f) (mA f)) /\ PySem.Within mA (fs.map (·.1))
 | .own _ => ∃ o, h.get? a = some o
 | .xd fs => ∃ mA, h.Ns1 a mA /\ ∀ f, RelO (fs.lookup f) (mA f)
 | .rng lo hi => ∃ t u v, h.get? a = some { cls := .type "range", data := .fields #[.int lo t, .int hi u, .int 1 v] }
 | .frz o u => h.get? a = some o /\ ObjOk H h a u
 | .tbl ps => h.get? a = some { cls := .none, data := .fields ps }
 | .met f x => h.get? a = some (PySem.W.methodObj (.ref f) (.ref x))
 | .ext φ => φ h /\ (∃ o, h.get? a = some o) /\ ∀ h1 h2 : Heap, φ h1 -> (∀ o, h1.get? a = some o -> h2.get? a = some o) -> φ h2
def HOk (H : Hp) (h : Heap) : Prop := ∀ a o, H a = some o -> ObjOk P w H h a o
end
section
variable {P : Program} {w : World} {H H' : Hp} {h h' : Heap} {a : Addr} {o : HO}
theorem ObjOk.lt (x : ObjOk P w H h a o) : a < h.objs.size := by
 cases o with
 | lst xs => obtain ⟨_, _, _, _, e⟩ := x; exact Heap.lt_size e
 | tup xs => obtain ⟨_, _, _, p⟩ := x; exact p.1.lt
 | dK kvs => obtain ⟨_, _, _, _, o, _, _, e, _⟩ := x; exact Heap.lt_size e
 | dT kvs => obtain ⟨_, _, _, _, o, _, _, e, _⟩ := x; exact Heap.lt_size e
 | set S n => obtain ⟨o, _, _, _, e, _⟩ := x; exact Heap.lt_size e
 | ins C dx fs => obtain ⟨_, _, _, e, _⟩ := x; exact Heap.lt_size e
 | own y => obtain ⟨_, e⟩ := x; exact Heap.lt_size e
 | xd fs => obtain ⟨_, ⟨_, _, _, e, _⟩, _⟩ := x; exact Heap.lt_size e
 | rng lo hi => obtain ⟨_, _, _, e⟩ := x; exact Heap.lt_size e
 | frz ob u => obtain ⟨e, _⟩ := x; exact Heap.lt_size e
 | tbl ps => exact Heap.lt_size (show h.get? a = some _ from x)
 | met f y => exact Heap.lt_size (show h.get? a = some _ from x)
 | ext φ => obtain ⟨_, ⟨_, e⟩, _⟩ := x; exact Heap.lt_size e
theorem Paired.mapP {α β : Type} {F G : α -> β -> Prop} : ∀ {l₁ : List α} {l₂ : List β}, Paired F l₁ l₂ -> (∀ a b, F a b -> G a b) -> Paired G l₁ l₂
 | _, _, .nil, _ => .nil
 | _, _, .cons r t, f => .cons (f _ _ r) (Paired.mapP t f)
theorem ObjOk.stay (x : ObjOk P w H h a o) (k : ∀ b u, (b = a \/ H b = some (.own a)) -> h.get? b = some u -> h'.get? b = some u)
  (ho : ∀ b, H b = some (.own a) -> H' b = some (.own a)) (ht : ∀ b xs, H b = some (.tup xs) -> H' b = some (.tup xs)) : ObjOk P w H' h' a o := by
 induction o with
 | lst xs => obtain ⟨z, its, n, r, e⟩ := x; exact ⟨z, its, n, r, k _ _ (.inl rfl) e⟩
 | tup xs => obtain ⟨z, its, r, ⟨ob, e, c⟩, ob2, e2, c2⟩ := x; exact ⟨z, its, r, ⟨ob, k _ _ (.inl rfl) e, c⟩, ob2, k _ _ (.inl rfl) e2, c2⟩
 | dK kvs => obtain ⟨z, y, vs, r, ob, es, ep, e, c⟩ := x; exact ⟨z, y, vs, r, ob, es, ep, k _ _ (.inl rfl) e, c⟩
 | dT kvs =>
  obtain ⟨z, y, xs, r, ob, es, ep, e, c⟩ := x
  exact ⟨z, y, xs, Paired.mapP r fun p q z => ⟨z.1, ht _ _ z.2.1, z.2.2⟩, ob, es, ep, k _ _ (.inl rfl) e, c⟩
 | set S n => obtain ⟨ob, es, ep, t, e, c⟩ := x; exact ⟨ob, es, ep, t, k _ _ (.inl rfl) e, c⟩
 | ins C dx fs =>
  obtain ⟨d, z, ne, e, mA, ⟨od, es, ep, e2, c⟩, r⟩ := x
  exact ⟨ho _ d, z, ne, k _ _ (.inl rfl) e, mA, ⟨od, es, ep, k _ _ (.inr d) e2, c⟩, r⟩
 | own y => obtain ⟨ob, e⟩ := x; exact ⟨ob, k _ _ (.inl rfl) e⟩
 | xd fs => obtain ⟨mA, ⟨od, es, ep, e, c⟩, r⟩ := x; exact ⟨mA, ⟨od, es, ep, k _ _ (.inl rfl) e, c⟩, r⟩
 | rng lo hi => obtain ⟨t, u, v, e⟩ := x; exact ⟨t, u, v, k _ _ (.inl rfl) e⟩
 | frz ob u ih => obtain ⟨e, q⟩ := x; exact ⟨k _ _ (.inl rfl) e, ih q⟩
 | tbl ps =>
  have e : h.get? a = some { cls := .none, data := .fields ps } := x
  show h'.get? a = some { cls := .none, data := .fields ps }
  exact k a _ (.inl rfl) e
 | met f y =>
  have e : h.get? a = some (PySem.W.methodObj (.ref f) (.ref y)) := x
  show h'.get? a = some (PySem.W.methodObj (.ref f) (.ref y))
  exact k a _ (.inl rfl) e
 | ext φ => obtain ⟨p, ⟨o, e⟩, st⟩ := x; exact ⟨st _ _ p fun o q => k _ _ (.inl rfl) q, ⟨o, k _ _ (.inl rfl) e⟩, st⟩
theorem HOk.lt (x : HOk P w H h) (e : H a = some o) : a < h.objs.size := (x a o e).lt
theorem HOk.fresh (x : HOk P w H h) (e : h.objs.size <= a) : H a = none := by
 cases q : H a with
 | none => rfl
 | some u => exact absurd (Nat.lt_of_lt_of_le (x.lt q) e) (Nat.lt_irrefl _)
theorem HOk.kept (x : HOk P w H h) (k : ∀ b u, h.get? b = some u -> h'.get? b = some u) : HOk P w H h' := fun a o e =>
 (x a o e).stay (fun b u _ q => k b u q) (fun _ q => q) fun _ _ q => q
theorem HOk.laid (x : HOk P w H h) (k : ∀ b u, h.get? b = some u -> h'.get? b = some u) (hp : h.objs.size <= a) (new : ObjOk P w (upd H a o) h' a o) : HOk P w (upd H a o) h' := fun b u e => by
 have hn := x.fresh hp
 by_cases hb : b = a
 ·subst hb; rw [aq0] at e; cases e; exact new
 ·rw [an0 hb] at e
  exact (x b u e).stay (fun c v _ q => k c v q) (fun c q => by rw [an0 (au0 q hn)]; exact q) fun c xs q => by rw [an0 (au0 q hn)]; exact q
end
def Rd (H : Hp) (a : Addr) (u : HO) : Prop := H a = some u \/ ∃ o, H a = some (.frz o u)
theorem Rd.ok {P : Program} {w : World} {H : Hp} {h : Heap} {a : Addr} {u : HO} (r : Rd H a u) (x : HOk P w H h) : ObjOk P w H h a u := by
 rcases r with r | ⟨o, r⟩
 ·exact x a u r
 ·obtain ⟨_, q⟩ := x a _ r
  exact q
def Mut : Option HO -> Prop
 | some (.lst _) => True
 | some (.dK _) => True
 | some (.dT _) => True
 | some (.set _ _) => True
 | some (.ins _ _ _) => True
 | some (.ext _) => True
 | _ => False
section
variable {P : Program} {w : World} {H : Hp} {h h' : Heap} {x e : Addr} {o' : HO}
theorem HOk.write (ok : HOk P w H h) (mu : Mut (H x)) (he : e = x \/ H e = some (.own x)) (k : ∀ b u, b ≠ e -> h.get? b = some u -> h'.get? b = some u) (heo : ∃ u, h'.get? e = some u)
  (new : ObjOk P w (upd H x o') h' x o') : HOk P w (upd H x o') h' := fun b u q => by
 have nown : ∀ c y, H c = some (.own y) -> c ≠ x := fun c y r z => by subst z; rw [r] at mu; exact mu
 have ntup : ∀ c xs, H c = some (.tup xs) -> c ≠ x := fun c xs r z => by subst z; rw [r] at mu; exact mu
 by_cases hb : b = x
 ·subst hb; rw [aq0] at q; cases q; exact new
 ·rw [an0 hb] at q
  by_cases hbe : b = e
  ·have q' : H b = some (.own x) := by
    rcases he with z | z
    ·exact absurd (hbe.trans z) hb
    ·rw [hbe]; exact z
   rw [q] at q'; cases q'
   obtain ⟨v, hv⟩ := heo
   exact ⟨v, by rw [hbe]; exact hv⟩
  ·refine (ok b u q).stay (fun c v hc r => k c v ?_ r) (fun c r => by rw [an0 (nown c b r)]; exact r) fun c xs r => by rw [an0 (ntup c xs r)]; exact r
   rcases hc with rfl | hc
   ·exact hbe
   ·rintro rfl
    rcases he with z | z
    ·exact nown c b hc z
    ·rw [hc] at z; cases z; exact hb rfl
end
structure Un (fs ex : List Addr) (H H' : Hp) (h h' : Heap) : Prop where
 keep : ∀ b o, h.get? b = some o -> H b = none -> b ∉ fs -> b ∉ ex -> h'.get? b = some o
 slot : ∀ b o, h.get? b = some o -> H b = none -> b ∈ fs -> b ∉ ex -> ∃ sl, h'.get? b = some { o with slots := sl }
 free : ∀ b o, h.get? b = some o -> H b = none -> b ∉ ex -> H' b = none
 there : ∀ b o, h.get? b = some o -> b ∉ ex -> ∃ o', h'.get? b = some o'
 tups : ∀ b xs, H b = some (.tup xs) -> H' b = some (.tup xs)
 frzs : ∀ b o u, H b = some (.frz o u) -> H' b = some (.frz o u)
 tbls : ∀ b ps, H b = some (.tbl ps) -> ∃ more, H' b = some (.tbl (ps ++ more))
section
variable {fs fs' ex ex' : List Addr} {H H1 H2 : Hp} {h h1 h2 h' : Heap} {a x e : Addr} {o : HO}
theorem Un.any (u : Un fs ex H H1 h h1) {b : Addr} {ob : Obj} (q : h.get? b = some ob) (n : H b = none) (hx : b ∉ ex) : ∃ sl, h1.get? b = some { ob with slots := sl } := by
 by_cases hb : b ∈ fs
 ·exact u.slot b ob q n hb hx
 ·exact ⟨ob.slots, u.keep b ob q n hb hx⟩
theorem Un.kept (k : ∀ b u, h.get? b = some u -> h'.get? b = some u) : Un fs ex H H h h' :=
 ⟨fun b ob q _ _ _ => k b ob q, fun b ob q _ _ _ => ⟨ob.slots, k b ob q⟩, fun _ _ _ n _ => n, fun b ob q _ => ⟨ob, k b ob q⟩, fun _ _ q => q, fun _ _ _ q => q, fun _ ps q => ⟨#[], by rw [q]; simp⟩⟩
theorem Un.refl : Un fs ex H H h h := Un.kept fun _ _ q => q
theorem Un.laid (k : ∀ b u, h.get? b = some u -> h'.get? b = some u) (hp : h.objs.size <= a) (hn : H a = none) : Un fs ex H (upd H a o) h h' where
 keep := fun b u q _ _ _ => k b u q
 slot := fun b u q _ _ _ => ⟨u.slots, k b u q⟩
 free := fun b u q n _ => by rw [an0 (Nat.ne_of_lt (Nat.lt_of_lt_of_le (Heap.lt_size q) hp))]; exact n
 there := fun b u q _ => ⟨u, k b u q⟩
 tups := fun b xs q => by rw [an0 (au0 q hn)]; exact q
 frzs := fun b u xs q => by rw [an0 (au0 q hn)]; exact q
 tbls := fun b ps q => ⟨#[], by rw [an0 (au0 q hn), q]; simp⟩
theorem Un.write (mu : Mut (H x)) (he : e = x \/ H e = some (.own x)) (k : ∀ b u, b ≠ e -> h.get? b = some u -> h'.get? b = some u) (heo : ∃ u, h'.get? e = some u) : Un fs ex H (upd H x o) h h' := by
 have hx : ∀ b, H b = none -> b ≠ x := fun b n z => by subst z; rw [n] at mu; exact mu
 have hb : ∀ b, H b = none -> b ≠ e := fun b n z => by
  subst z
  rcases he with r | r
  ·exact hx b n r
  ·rw [n] at r; cases r
 have hm : ∀ b u, H b = some u -> ¬ Mut (some u) -> b ≠ x := fun b u q nm z => by subst z; rw [q] at mu; exact nm mu
 refine ⟨fun b u q n _ _ => k b u (hb b n) q, fun b u q n _ _ => ⟨u.slots, k b u (hb b n) q⟩, fun b u q n _ => by rw [an0 (hx b n)]; exact n, fun b u q _ => ?_,
  fun b xs q => by rw [an0 (hm b _ q fun z => z)]; exact q, fun b u xs q => by rw [an0 (hm b _ q fun z => z)]; exact q, fun b ps q => ⟨#[], by rw [an0 (hm b _ q fun z => z), q]; simp⟩⟩
 by_cases hbe : b = e
 ·subst hbe; exact heo
 ·exact ⟨u, k b u hbe q⟩
end
def trk (h : Heap) (H : Hp) : List Addr := (List.range h.objs.size).filter fun a => (H a).isSome
def hidT (h : Heap) (H : Hp) : Heap := PySem.W.hideAll h (trk h H)
theorem ir0 (h : Heap) (H : Hp) : (hidT h H).objs.size = h.objs.size := PySem.W.hideAll_size _ _
theorem mf0 {h : Heap} {H : Hp} {b : Addr} {o : Obj} (e : h.get? b = some o) (n : H b = none) : (hidT h H).get? b = some o :=
 PySem.W.hideAll_get _ e fun hm => by
  have q : (H b).isSome = true := (List.mem_filter.mp hm).2
  rw [n] at q; simp at q
theorem nI0 {h : Heap} {H : Hp} {b : Addr} {o : Obj} (e : (hidT h H).get? b = some o) : h.get? b = some o /\ H b = none := by
 have e' : h.get? b = some o := PySem.W.of_hideAll (trk h H) e
 refine ⟨e', ?_⟩
 cases q : H b with
 | none => rfl
 | some x =>
  have hm : b ∈ trk h H := List.mem_filter.mpr ⟨List.mem_range.mpr (Heap.lt_size e'), by simp [q]⟩
  have z : (hidT h H).get? b = none := PySem.W.hideAll_none (trk h H) hm
  rw [z] at e; cases e
end L2
namespace L2
open PySem PySem.Spec PyProof.Rows
structure Mod (K : PySem.W.Frag) (mg : Str -> Option Value) (base : Heap) : Prop where
 kin : K.In base
 glob : base.Ns mainGlobals mg
 blt : ∃ mb, base.Ns builtinsNs mb /\ ∀ x : Str, x ≠ "__name__" -> mb x = bootBuiltins x
 nolimit : base.NoLimit
structure Cx where
 prog : Program
 w : World
 K : PySem.W.Frag
 mg : Str -> Option Value
 base : Heap
 A : Around
 N : List Str
 s₀ : Shared
 H₀ : Hp
 env : Env
 outer : List Env
 stack : List Env
 ex : List Addr
 fn : Str -> Bool
 calm : Bool
 pn : List (Addr × Obj)
 xe : Value -> Shared -> Prop
def frs (l : List Env) : List Addr := l.filterMap (·.frame)
abbrev Cx.fs (X : Cx) : List Addr := frs X.outer
def Vis (sc : Scope) (x : Str) : Prop := sc.names.lookup x = some .local \/ sc.names.lookup x = some .cell \/ sc.names.lookup x = some .free
def Loc (sc : Scope) (x : Str) : Prop := sc.names.lookup x = some .local \/ sc.names.lookup x = some .cell
def Look (env : Env) (h : Heap) (m : Str -> Option Value) (x : Str) (u : Value) : Prop :=
 (env.kindOf x = some .local /\ m x = some u) \/ ((env.kindOf x = some .cell \/ env.kindOf x = some .free) /\ ∃ c, env.cells.lookup x = some c /\ h.IsCell c (some u))
structure Cx.Ok (X : Cx) : Prop where
 mod : Mod X.K X.mg X.base
 kind : X.env.scope.kind = .function
 glob : X.env.globals = mainGlobals
 blt : X.env.builtins = builtinsNs
 above : X.s₀.heap.objs.size <= X.env.locals
 inj : ∀ x y c, X.env.cells.lookup x = some c -> X.env.cells.lookup y = some c -> x = y
 has : ∀ x, (X.env.kindOf x = some .cell \/ X.env.kindOf x = some .free) -> ∃ c, X.env.cells.lookup x = some c
 cab : ∀ x c, X.fn x = true -> X.env.cells.lookup x = some c -> X.s₀.heap.objs.size <= c
 hd : X.calm = true -> X.A.handled = none
 frames : X.A.frames = some X.stack
 stk : X.stack = X.outer \/ (X.stack = X.env :: X.outer /\ X.env.frame = some X.env.locals)
 exf : ∀ b ∈ X.ex, b ≠ X.env.locals /\ ∀ x c, X.env.cells.lookup x = some c -> c ≠ b
 bs : ∀ b o, X.base.get? b = some o -> X.s₀.heap.get? b = some o /\ X.H₀ b = none
 bsz : X.base.objs.size <= X.s₀.heap.objs.size
 noex : ∀ b o, X.base.get? b = some o -> b ∉ X.ex
 exfs : ∀ b ∈ X.ex, b ∉ X.fs
 funs : X.s₀.heap.FunFrames X.base X.outer
 frf : ∀ b ∈ X.fs, X.H₀ b = none
structure Inv (X : Cx) (pins : List (Addr × Obj)) (σ : List (Option V)) (H : Hp) (s : Shared) : Prop where
 ok : X.Ok
 os : s.os = X.s₀.os
 bare : AllBare s.gens
 base : Un X.fs X.ex X.H₀ H X.s₀.heap s.heap
 loc : ∃ m, s.heap.Ns X.env.locals m /\ ∀ (i : Nat) (x : Str) (v : V), X.N[i]? = some x -> σ[i]? = some (some v) -> Vis X.env.scope x -> ∃ u, RelV v u /\ Look X.env s.heap m x u
 cell : ∀ x c, X.env.cells.lookup x = some c -> ∃ v, s.heap.IsCell c v
 free : H X.env.locals = none
 freeC : ∀ x c, X.env.cells.lookup x = some c -> H c = none
 pin : ∀ p ∈ X.pn ++ pins, s.heap.get? p.1 = some p.2 /\ H p.1 = none /\ p.1 ≠ X.env.locals /\ p.1 ∉ X.fs /\ ∀ v, p.2.data ≠ .cell v
 hok : HOk X.prog X.w H s.heap
 len : σ.length = X.N.length
section
variable {X : Cx} {pins : List (Addr × Obj)} {σ : List (Option V)} {H H' : Hp} {s : Shared} {h' : Heap}
theorem Cx.Ok.nofr (ok : X.Ok) {b : Addr} {o : Obj} (e : X.base.get? b = some o) : b ∉ X.fs := fun hb => by
 have := (ok.funs.mem hb).1
 rw [e] at this; cases this
theorem Inv.bs (I : Inv X pins σ H s) : ∀ b o, X.base.get? b = some o -> s.heap.get? b = some o /\ H b = none := fun b o e =>
 ⟨I.base.keep b o (I.ok.bs b o e).1 (I.ok.bs b o e).2 (I.ok.nofr e) (I.ok.noex b o e), I.base.free b o (I.ok.bs b o e).1 (I.ok.bs b o e).2 (I.ok.noex b o e)⟩
theorem Inv.bk (I : Inv X pins σ H s) : ∀ b o, X.base.get? b = some o -> s.heap.get? b = some o := fun b o e => (I.bs b o e).1
theorem Inv.mod (I : Inv X pins σ H s) : Mod X.K X.mg X.base := I.ok.mod
theorem Inv.kIn (I : Inv X pins σ H s) : X.K.In s.heap := I.ok.mod.kin.keeps I.bk
theorem Inv.lt (I : Inv X pins σ H s) : X.env.locals < s.heap.objs.size := let ⟨_, hn, _⟩ := I.loc; hn.lt
theorem Inv.sz (I : Inv X pins σ H s) : X.s₀.heap.objs.size <= s.heap.objs.size := Nat.le_trans I.ok.above (Nat.le_of_lt I.lt)
theorem Inv.nofs (I : Inv X pins σ H s) {a : Addr} (h : s.heap.objs.size <= a) : a ∉ X.fs := fun hb => by
 obtain ⟨_, o, ho, _⟩ := I.ok.funs.mem hb
 exact absurd (Nat.lt_of_lt_of_le (Heap.lt_size ho) (Nat.le_trans I.sz h)) (Nat.lt_irrefl _)
theorem Inv.cne (I : Inv X pins σ H s) : ∀ x c, X.env.cells.lookup x = some c -> c ≠ X.env.locals := fun x c e z => by
 obtain ⟨v, o, ho, hd⟩ := I.cell x c e
 obtain ⟨m, ⟨o', es, ep, ho', hd', _⟩, _⟩ := I.loc
 rw [z, ho'] at ho; cases ho; rw [hd'] at hd; cases hd
theorem Inv.funs (I : Inv X pins σ H s) : s.heap.FunFrames X.base X.outer := by
 have all : ∀ (l : List Env), (∀ b ∈ frs l, b ∈ X.fs) -> X.s₀.heap.FunFrames X.base l -> s.heap.FunFrames X.base l := by
  intro l
  induction l with
  | nil => intro _ _; trivial
  | cons env r ih =>
   intro hs hl
   obtain ⟨hk, ⟨L, o, hf, hn, ho, hd⟩, hr⟩ := hl
   have hL : L ∈ X.fs := hs L (by unfold frs; rw [List.filterMap_cons, hf]; exact List.mem_cons_self)
   obtain ⟨sl, e⟩ := I.base.slot L o ho (I.ok.frf L hL) hL fun z => I.ok.exfs L z hL
   exact ⟨hk, ⟨L, _, hf, hn, e, hd⟩, ih (fun b hb => hs b (by unfold frs; rw [List.filterMap_cons, hf]; exact List.mem_cons_of_mem _ hb)) hr⟩
 exact all X.outer (fun _ hb => hb) I.ok.funs
theorem Inv.stack (I : Inv X pins σ H s) : s.heap.FunFrames X.base X.stack := by
 rcases I.ok.stk with e | ⟨e, hf⟩
 ·rw [e]; exact I.funs
 ·rw [e]
  obtain ⟨m, hn, _⟩ := I.loc
  refine .cons (by rw [I.ok.kind]; decide) hf hn ?_ I.funs
  exact Heap.get?_none_of_le (Nat.le_trans I.ok.bsz I.ok.above)
theorem Inv.stkSub (I : Inv X pins σ H s) : ∀ b ∈ frs X.stack, b ∈ X.env.locals :: X.fs := fun b hb => by
 rcases I.ok.stk with e | ⟨e, hf⟩
 ·rw [e] at hb; exact List.mem_cons_of_mem _ hb
 ·rw [e] at hb
  unfold frs at hb
  rw [List.filterMap_cons, hf] at hb
  exact hb
theorem Inv.stkFree (I : Inv X pins σ H s) : ∀ b ∈ frs X.stack, H b = none := fun b hb => by
 rcases List.mem_cons.mp (I.stkSub b hb) with e | hb
 ·rw [e]; exact I.free
 ·obtain ⟨_, o, ho, _⟩ := I.ok.funs.mem hb
  exact I.base.free b o ho (I.ok.frf b hb) fun z => I.ok.exfs b z hb
theorem Inv.step {g' : Array GenState} {t' : Nat} {d' : Drawn} {ch : List Addr} (I : Inv X pins σ H s)
  (hch : ∀ b ∈ ch, (b ∈ X.ex \/ X.s₀.heap.objs.size <= b) /\ b ≠ X.env.locals /\ (∀ x c, X.env.cells.lookup x = some c -> c ≠ b) /\ ∀ p ∈ X.pn ++ pins, p.1 ≠ b)
  (keep : ∀ b o, b ≠ X.env.locals -> b ∉ X.fs -> b ∉ ch -> s.heap.get? b = some o -> H b = none -> h'.get? b = some o)
  (slot : ∀ b o, b ≠ X.env.locals -> b ∈ X.fs -> b ∉ ch -> s.heap.get? b = some o -> H b = none -> ∃ sl, h'.get? b = some { o with slots := sl }) (free : ∀ b o, b ∉ ch -> s.heap.get? b = some o -> H b = none -> H' b = none)
  (there : ∀ b o, b ∉ ch -> s.heap.get? b = some o -> ∃ o', h'.get? b = some o')
  (tups : ∀ b xs, H b = some (.tup xs) -> H' b = some (.tup xs)) (frzs : ∀ b o u, H b = some (.frz o u) -> H' b = some (.frz o u)) (tbls : ∀ b ps, H b = some (.tbl ps) -> ∃ more, H' b = some (.tbl (ps ++ more)))
  (ns : ∀ m, s.heap.Ns X.env.locals m -> h'.Ns X.env.locals m) (hok : HOk X.prog X.w H' h') (hg : AllBare g') :
  Inv X pins σ H' { s with heap := h', gens := g', drawn := d', toks := t' } := by
 have neL : ∀ b o, X.s₀.heap.get? b = some o -> b ≠ X.env.locals := fun b o e => Nat.ne_of_lt (Nat.lt_of_lt_of_le (Heap.lt_size e) I.ok.above)
 have neC : ∀ b o, X.s₀.heap.get? b = some o -> b ∉ X.ex -> b ∉ ch := fun b o e hx hb => by
  rcases (hch b hb).1 with z | z
  ·exact hx z
  ·exact absurd (Nat.lt_of_lt_of_le (Heap.lt_size e) z) (Nat.lt_irrefl _)
 have cellK : ∀ x c, X.env.cells.lookup x = some c -> ∀ v, s.heap.IsCell c v -> h'.IsCell c v := fun x c e v ⟨o, ho, hd⟩ => by
  have nch : c ∉ ch := fun z => (hch c z).2.2.1 x c e rfl
  by_cases hc : c ∈ X.fs
  ·obtain ⟨sl, q⟩ := slot c o (I.cne x c e) hc nch ho (I.freeC x c e)
   exact ⟨_, q, hd⟩
  ·exact ⟨o, keep c o (I.cne x c e) hc nch ho (I.freeC x c e), hd⟩
 refine ⟨I.ok, I.os, hg, ⟨fun b o e n hb hx => ?_, fun b o e n hb hx => ?_, fun b o e n hx => ?_, fun b o e hx => ?_, fun b xs e => tups b xs (I.base.tups b xs e), fun b o xs e => frzs b o xs (I.base.frzs b o xs e), fun b ps e => ?_⟩, ?_, fun x c e => ?_, ?_, fun x c e => ?_, fun p hp => ?_, hok, I.len⟩
 ·exact keep b o (neL b o e) hb (neC b o e hx) (I.base.keep b o e n hb hx) (I.base.free b o e n hx)
 ·obtain ⟨sl, e1⟩ := I.base.slot b o e n hb hx
  obtain ⟨sl', e2⟩ := slot b _ (neL b o e) hb (neC b o e hx) e1 (I.base.free b o e n hx)
  exact ⟨sl', e2⟩
 ·obtain ⟨o', e1⟩ := I.base.there b o e hx
  exact free b o' (neC b o e hx) e1 (I.base.free b o e n hx)
 ·obtain ⟨o', e1⟩ := I.base.there b o e hx
  exact there b o' (neC b o e hx) e1
 ·obtain ⟨m1, e1⟩ := I.base.tbls b ps e
  obtain ⟨m2, e2⟩ := tbls b _ e1
  exact ⟨m1 ++ m2, by rw [e2, Array.append_assoc]⟩
 ·obtain ⟨m, hn, hl⟩ := I.loc
  refine ⟨m, ns m hn, fun i x v e1 e2 e3 => ?_⟩
  obtain ⟨u, r, l⟩ := hl i x v e1 e2 e3
  refine ⟨u, r, ?_⟩
  rcases l with l | ⟨k, c, e, z⟩
  ·exact .inl l
  ·exact .inr ⟨k, c, e, cellK x c e _ z⟩
 ·obtain ⟨v, z⟩ := I.cell x c e
  exact ⟨v, cellK x c e v z⟩
 ·obtain ⟨m, ⟨o, _, _, ho, _⟩, _⟩ := I.loc
  exact free _ o (fun z => (hch _ z).2.1 rfl) ho I.free
 ·obtain ⟨v, o, ho, hd⟩ := I.cell x c e
  exact free c o (fun z => (hch c z).2.2.1 x c e rfl) ho (I.freeC x c e)
 ·obtain ⟨e, n, ne, nf, d⟩ := I.pin p hp
  have nch : p.1 ∉ ch := fun z => (hch p.1 z).2.2.2 p hp rfl
  exact ⟨keep p.1 p.2 ne nf nch e n, free p.1 p.2 nch e n, ne, nf, d⟩
theorem Inv.un {t' : Nat} (I : Inv X pins σ H s) (u : Un X.fs [] H H' s.heap h') (hok : HOk X.prog X.w H' h') : Inv X pins σ H' { s with heap := h', toks := t' } := by
 obtain ⟨m, ⟨o, es, ep, ho, r⟩, _⟩ := id I.loc
 obtain ⟨sl, hL⟩ := u.any ho I.free (by simp)
 exact I.step (g' := s.gens) (d' := s.drawn) (ch := []) (fun _ z => nomatch z) (fun b o _ hb _ e n => u.keep b o e n hb (by simp)) (fun b o _ hb _ e n => u.slot b o e n hb (by simp)) (fun b o _ e n => u.free b o e n (by simp)) (fun b o _ e => u.there b o e (by simp)) u.tups u.frzs u.tbls (fun m' hm => by
  obtain ⟨o', es', ep', ho', r'⟩ := hm
  rw [ho] at ho'; cases ho'
  exact ⟨_, es', ep', hL, r'⟩) hok I.bare
theorem Inv.call {g' : Array GenState} {t' : Nat} {d' : Drawn} {ch : List Addr} (I : Inv X pins σ H s) (u : Un (frs X.stack) ch H H' s.heap h') (hok : HOk X.prog X.w H' h') (hg : AllBare g')
  (hch : ∀ b ∈ ch, (b ∈ X.ex \/ X.s₀.heap.objs.size <= b) /\ b ≠ X.env.locals /\ (∀ x c, X.env.cells.lookup x = some c -> c ≠ b) /\ ∀ p ∈ X.pn ++ pins, p.1 ≠ b) :
  Inv X pins σ H' { s with heap := h', gens := g', drawn := d', toks := t' } := by
 obtain ⟨m, ⟨o, es, ep, ho, r⟩, _⟩ := id I.loc
 obtain ⟨sl, hL⟩ := u.any ho I.free fun z => (hch _ z).2.1 rfl
 exact I.step (ch := ch) hch (fun b o hL hb hc e n => u.keep b o e n (fun z => (List.mem_cons.mp (I.stkSub b z)).elim hL hb) hc) (fun b o _ _ hc e n => u.any e n hc) (fun b o hc e n => u.free b o e n hc) (fun b o hc e => u.there b o e hc) u.tups u.frzs u.tbls (fun m' hm => by
  obtain ⟨o', es', ep', ho', r'⟩ := hm
  rw [ho] at ho'; cases ho'
  exact ⟨_, es', ep', hL, r'⟩) hok hg
theorem Inv.turned {t' : Nat} {it : Addr} (I : Inv X pins σ H s) (k : ∀ b o, b ≠ it -> s.heap.get? b = some o -> h'.get? b = some o) (hn : H it = none) (hL : it ≠ X.env.locals)
  (h1 : it ∈ X.ex \/ X.s₀.heap.objs.size <= it) (h2 : ∀ x c, X.env.cells.lookup x = some c -> c ≠ it) (h3 : ∀ p ∈ X.pn ++ pins, p.1 ≠ it) : Inv X pins σ H { s with heap := h', toks := t' } := by
 have nit : ∀ b u, H b = some u -> b ≠ it := fun b u e z => by rw [z, hn] at e; cases e
 refine I.step (g' := s.gens) (d' := s.drawn) (ch := [it]) (fun b hb => ?_) (fun b o _ _ hc e _ => k b o (fun z => hc (by simp [z])) e) (fun b o _ _ hc e _ => ⟨o.slots, k b o (fun z => hc (by simp [z])) e⟩) (fun _ _ _ _ n => n)
  (fun b o hc e => ⟨o, k b o (fun z => hc (by simp [z])) e⟩) (fun _ _ e => e) (fun _ _ _ e => e) (fun b ps e => ⟨#[], by rw [e]; simp⟩) (fun m hm => ?_) (fun b u e => ?_) I.bare
 ·have e : b = it := by simpa using hb
  subst e
  exact ⟨h1, hL, h2, h3⟩
 ·obtain ⟨o, es, ep, ho, r⟩ := hm
  exact ⟨o, es, ep, k _ o (Ne.symm hL) ho, r⟩
 ·refine (I.hok b u e).stay (fun c v hc q => k c v ?_ q) (fun _ q => q) fun _ _ q => q
  rcases hc with z | z
  ·rw [z]; exact nit b u e
  ·exact nit c _ z
theorem Inv.tok (I : Inv X pins σ H s) (t : Nat) : Inv X pins σ H { s with toks := t } := I.un (h' := s.heap) (t' := t) Un.refl I.hok
theorem Inv.kept {t' : Nat} (I : Inv X pins σ H s) (k : ∀ b u, s.heap.get? b = some u -> h'.get? b = some u) : Inv X pins σ H { s with heap := h', toks := t' } := I.un (Un.kept k) (I.hok.kept k)
theorem Inv.laid {a : Addr} {o : HO} {t' : Nat} (I : Inv X pins σ H s) (k : ∀ b u, s.heap.get? b = some u -> h'.get? b = some u) (hp : s.heap.objs.size <= a) (new : ObjOk X.prog X.w (upd H a o) h' a o) :
  Inv X pins σ (upd H a o) { s with heap := h', toks := t' } := I.un (Un.laid k hp (I.hok.fresh hp)) (I.hok.laid k hp new)
theorem Inv.write {x e : Addr} {o : HO} {t' : Nat} (I : Inv X pins σ H s) (mu : Mut (H x)) (he : e = x \/ H e = some (.own x)) (k : ∀ b u, b ≠ e -> s.heap.get? b = some u -> h'.get? b = some u) (heo : ∃ u, h'.get? e = some u)
  (new : ObjOk X.prog X.w (upd H x o) h' x o) : Inv X pins σ (upd H x o) { s with heap := h', toks := t' } := I.un (Un.write mu he k heo) (I.hok.write mu he k heo new)
theorem Inv.weak {σ' : List (Option V)} (I : Inv X pins σ H s) (hl : σ'.length = σ.length) (w : ∀ (i : Nat) v, σ'[i]? = some (some v) -> σ[i]? = some (some v)) : Inv X pins σ' H s :=
 ⟨I.ok, I.os, I.bare, I.base, let ⟨m, hn, hl'⟩ := I.loc; ⟨m, hn, fun i x v e1 e2 e3 => hl' i x v e1 (w i v e2) e3⟩, I.cell, I.free, I.freeC, I.pin, I.hok, hl.trans I.len⟩
theorem Inv.pins_of {pins' : List (Addr × Obj)} (I : Inv X pins σ H s) (h : ∀ p ∈ pins', s.heap.get? p.1 = some p.2 /\ H p.1 = none /\ p.1 ≠ X.env.locals /\ p.1 ∉ X.fs /\ ∀ v, p.2.data ≠ .cell v) : Inv X pins' σ H s :=
 ⟨I.ok, I.os, I.bare, I.base, I.loc, I.cell, I.free, I.freeC, fun p hp => (List.mem_append.mp hp).elim (fun z => I.pin p (List.mem_append_left _ z)) (h p), I.hok, I.len⟩
theorem gI0 {N : List Str} (hN : N.Nodup) {i j : Nat} {x : Str} (a : N[i]? = some x) (b : N[j]? = some x) : i = j := by
 obtain ⟨h1, e1⟩ := List.getElem?_eq_some_iff.mp a
 obtain ⟨h2, e2⟩ := List.getElem?_eq_some_iff.mp b
 exact (List.getElem_inj hN).mp (e1.trans e2.symm)
theorem fh0 {M : Model} {A : Around} {E : Value -> Shared -> Prop} {i : Nat} {x : Str} {v : V} {u : Value} {Q : Unit -> Shared -> Prop} (I : Inv X pins σ H s) (hN : X.N.Nodup) (hi : X.N[i]? = some x) (hx : Loc X.env.scope x) (r : RelV v u)
  (h : ∀ s', Inv X pins (σ.set i (some v)) H s' -> (∃ a, Heap.SameBut a s.heap s'.heap /\ (a = X.env.locals \/ X.env.cells.lookup x = some a)) -> Q () s') (hf : X.fn x = true \/ X.env.scope.names.lookup x = some .local := by first | exact .inl rfl | exact .inr rfl | assumption) : wpAny M A (storeName X.env x u) Q E s := by
 obtain ⟨m, hn, hl⟩ := id I.loc
 have hcls : (X.env.scope.kind == .class || (X.env.scope.kind == .module && X.env.locals != X.env.globals)) = false := by rw [I.ok.kind]; rfl
 have hiσ : i < σ.length := by rw [I.len]; exact (List.getElem?_eq_some_iff.mp hi).1
 have cne := I.cne
 have tracked : ∀ {a : Addr} {h' : Heap}, (∃ o, s.heap.get? a = some o /\ H a = none) -> Heap.SameBut a s.heap h' -> HOk X.prog X.w H h' := fun {a h'} ha hs b ob e => by
  obtain ⟨_, _, hfree⟩ := ha
  refine (I.hok b ob e).stay (fun c w' hc q => (hs.2 c ?_).trans q) (fun _ q => q) fun _ _ q => q
  rintro rfl
  rcases hc with rfl | hc
  ·rw [hfree] at e; cases e
  ·rw [hfree] at hc; cases hc
 rcases hx with hk | hk
 ·refine wpAny_storeName_local hk hn (fun h' hn' hs => ?_) hcls
  obtain ⟨oL, _, _, hoL, _⟩ := id hn
  refine h _ ⟨I.ok, I.os, I.bare, ⟨fun b o e n hb hx => ?_, fun b o e n hb hx => ?_, I.base.free, fun b o e hx => ?_, I.base.tups, I.base.frzs, I.base.tbls⟩, ⟨_, hn', fun j y v' e1 e2 e3 => ?_⟩, fun y c e => ?_, I.free, I.freeC, fun p hp => ?_, tracked ⟨oL, hoL, I.free⟩ hs, by simpa using I.len⟩ ⟨_, hs, .inl rfl⟩
  ·exact (hs.2 b (Nat.ne_of_lt (Nat.lt_of_lt_of_le (Heap.lt_size e) I.ok.above))).trans (I.base.keep b o e n hb hx)
  ·obtain ⟨sl, e1⟩ := I.base.slot b o e n hb hx
   exact ⟨sl, (hs.2 b (Nat.ne_of_lt (Nat.lt_of_lt_of_le (Heap.lt_size e) I.ok.above))).trans e1⟩
  ·obtain ⟨o', e1⟩ := I.base.there b o e hx
   exact ⟨o', (hs.2 b (Nat.ne_of_lt (Nat.lt_of_lt_of_le (Heap.lt_size e) I.ok.above))).trans e1⟩
  ·by_cases hj : j = i
   ·subst hj
    rw [hi] at e1; cases e1
    rw [List.getElem?_set_self hiσ] at e2
    cases e2
    exact ⟨u, r, .inl ⟨hk, by simp⟩⟩
   ·rw [List.getElem?_set_ne (Ne.symm hj)] at e2
    obtain ⟨u', r', q⟩ := hl j y v' e1 e2 e3
    refine ⟨u', r', ?_⟩
    rcases q with ⟨k, e⟩ | ⟨k, c, e, z⟩
    ·refine .inl ⟨k, ?_⟩
     have : y ≠ x := fun e => hj (gI0 hN e1 (e ▸ hi))
     simp [this, e]
    ·exact .inr ⟨k, c, e, z.sameBut hs (cne y c e)⟩
  ·obtain ⟨w', z⟩ := I.cell y c e
   exact ⟨w', z.sameBut hs (cne y c e)⟩
  ·obtain ⟨e, n, ne, nf, d⟩ := I.pin p hp
   exact ⟨(hs.2 p.1 ne).trans e, n, ne, nf, d⟩
 ·have hfn : X.fn x = true := by
   rcases hf with z | z
   ·exact z
   ·rw [z] at hk; cases hk
  obtain ⟨c, hc⟩ := I.ok.has x (.inl hk)
  obtain ⟨w', z⟩ := I.cell x c hc
  refine wpAny_storeName_cell I.ok.kind hk hc z (fun h' hc' hs => ?_)
  obtain ⟨oc, hoc, hocd⟩ := id z
  refine h { s with heap := h' } ⟨I.ok, I.os, I.bare, ⟨fun b o e n hb hx => ?_, fun b o e n hb hx => ?_, I.base.free, fun b o e hx => ?_, I.base.tups, I.base.frzs, I.base.tbls⟩, ⟨m, hn.sameBut hs (Ne.symm (cne x c hc)), fun j y v' e1 e2 e3 => ?_⟩, fun y c' e => ?_, I.free, I.freeC, fun p hp => ?_, tracked ⟨oc, hoc, I.freeC x c hc⟩ hs, by simpa using I.len⟩ ⟨c, hs, .inr hc⟩
  ·exact (hs.2 b (Nat.ne_of_lt (Nat.lt_of_lt_of_le (Heap.lt_size e) (I.ok.cab x c hfn hc)))).trans (I.base.keep b o e n hb hx)
  ·obtain ⟨sl, e1⟩ := I.base.slot b o e n hb hx
   exact ⟨sl, (hs.2 b (Nat.ne_of_lt (Nat.lt_of_lt_of_le (Heap.lt_size e) (I.ok.cab x c hfn hc)))).trans e1⟩
  ·obtain ⟨o', e1⟩ := I.base.there b o e hx
   exact ⟨o', (hs.2 b (Nat.ne_of_lt (Nat.lt_of_lt_of_le (Heap.lt_size e) (I.ok.cab x c hfn hc)))).trans e1⟩
  ·by_cases hj : j = i
   ·subst hj
    rw [hi] at e1; cases e1
    rw [List.getElem?_set_self hiσ] at e2
    cases e2
    exact ⟨u, r, .inr ⟨.inl hk, c, hc, hc'⟩⟩
   ·rw [List.getElem?_set_ne (Ne.symm hj)] at e2
    obtain ⟨u', r', q⟩ := hl j y v' e1 e2 e3
    refine ⟨u', r', ?_⟩
    rcases q with q | ⟨k, c', e, z'⟩
    ·exact .inl q
    ·refine .inr ⟨k, c', e, z'.sameBut hs ?_⟩
     rintro rfl
     exact hj (gI0 hN e1 (I.ok.inj _ _ _ e hc ▸ hi))
  ·by_cases hcc : c' = c
   ·subst hcc; exact ⟨_, hc'⟩
   ·obtain ⟨w2, z2⟩ := I.cell y c' e
    exact ⟨w2, z2.sameBut hs hcc⟩
  ·obtain ⟨e, n, ne, nf, d⟩ := I.pin p hp
   refine ⟨(hs.2 p.1 ?_).trans e, n, ne, nf, d⟩
   intro q
   rw [q, hoc] at e
   have q' : oc = p.2 := Option.some.inj e
   exact d w' (by rw [<- q']; exact hocd)
theorem gO0 {M : Model} {A : Around} {E : Value -> Shared -> Prop} {i : Nat} {x : Str} {v : V} {u : Value} {Q : Unit -> Shared -> Prop} (I : Inv X pins σ H s) (hN : X.N.Nodup) (hi : X.N[i]? = some x) (hx : Loc X.env.scope x) (r : RelV v u)
  (h : ∀ s', Inv X pins (σ.set i (some v)) H s' -> Q () s') (hf : X.fn x = true \/ X.env.scope.names.lookup x = some .local := by first | exact .inl rfl | exact .inr rfl | assumption) : wpAny M A (storeName X.env x u) Q E s :=
 fh0 I hN hi hx r (fun s' I' _ => h s' I') hf
theorem Inv.call' {s' : Shared} {ch : List Addr} (I : Inv X pins σ H s) (ho : s'.os = s.os) (u : Un (frs X.stack) ch H H' s.heap s'.heap) (hok : HOk X.prog X.w H' s'.heap) (hg : AllBare s'.gens)
  (hch : ∀ b ∈ ch, (b ∈ X.ex \/ X.s₀.heap.objs.size <= b) /\ b ≠ X.env.locals /\ (∀ x c, X.env.cells.lookup x = some c -> c ≠ b) /\ ∀ p ∈ X.pn ++ pins, p.1 ≠ b) : Inv X pins σ H' s' := by
 obtain ⟨h', g', d', t', o'⟩ := s'
 have e : o' = s.os := ho
 subst e
 exact I.call (g' := g') (t' := t') (d' := d') u hok hg hch
end
abbrev XK := Value -> Option Addr -> Hp -> Prop
abbrev St := List (Option V)
abbrev VK := V -> Hp -> Prop
abbrev TE := St -> Hp -> VK -> Prop
abbrev TT := St -> Hp -> (Bool -> Hp -> Prop) -> Prop
abbrev TA := St -> Hp -> (List V -> Hp -> Prop) -> Prop
structure Ends where
 nx : St -> Hp -> Prop
 rt : VK
 bk : St -> Hp -> Prop := fun _ _ => False
 ct : St -> Hp -> Prop := fun _ _ => False
abbrev TS := Ends -> St -> Hp -> Prop
def EP (X : Cx) (pins : List (Addr × Obj)) (σ : St) (Q : VK) (u : Value) (s' : Shared) : Prop := ∃ v H', Inv X pins σ H' s' /\ RelV v u /\ Q v H'
def TP (X : Cx) (pins : List (Addr × Obj)) (σ : St) (Q : Bool -> Hp -> Prop) (b : Bool) (s' : Shared) : Prop := ∃ H', Inv X pins σ H' s' /\ Q b H'
def AP (X : Cx) (pins : List (Addr × Obj)) (σ : St) (Q : List V -> Hp -> Prop) (us : List Value) (s' : Shared) : Prop := ∃ vs H', Inv X pins σ H' s' /\ Vals vs us /\ Q vs H'
def SP (X : Cx) (pins : List (Addr × Obj)) (D : Ends) (f : Flow) (s' : Shared) : Prop :=
 match f with
 | .next => ∃ σ' H', Inv X pins σ' H' s' /\ D.nx σ' H'
 | .brk => ∃ σ' H', Inv X pins σ' H' s' /\ D.bk σ' H'
 | .cont => ∃ σ' H', Inv X pins σ' H' s' /\ D.ct σ' H'
 | .ret u => ∃ v σ' H', Inv X pins σ' H' s' /\ RelV v u /\ D.rt v H'
def PE (X : Cx) (e : Expr) (t : TE) : Prop :=
 ∀ (pins : List (Addr × Obj)) (s : Shared) (σ : St) (H : Hp) (Q : VK), Inv X pins σ H s -> t σ H Q -> wpAny (model X.prog X.w) X.A (eval e X.env) (EP X pins σ Q) X.xe s
def PT (X : Cx) (e : Expr) (t : TT) : Prop :=
 ∀ (pins : List (Addr × Obj)) (s : Shared) (σ : St) (H : Hp) (Q : Bool -> Hp -> Prop), Inv X pins σ H s -> t σ H Q -> wpAny (model X.prog X.w) X.A (isTrue e X.env (eval e X.env)) (TP X pins σ Q) X.xe s
def PW (X : Cx) (e : Expr) (t : TT) : Prop :=
 ∀ (whole : Sem Value) (pins : List (Addr × Obj)) (s : Shared) (σ : St) (H : Hp) (Q : Bool -> Hp -> Prop), Inv X pins σ H s -> t σ H Q -> wpAny (model X.prog X.w) X.A (isTrue e X.env whole) (TP X pins σ Q) X.xe s
theorem PW.pt {X : Cx} {e : Expr} {t : TT} (h : PW X e t) : PT X e t := h _
def PA (X : Cx) (es : List Expr) (t : TA) : Prop :=
 ∀ (pos : Pos) (pins : List (Addr × Obj)) (s : Shared) (σ : St) (H : Hp) (Q : List V -> Hp -> Prop), Inv X pins σ H s -> t σ H Q -> wpAny (model X.prog X.w) X.A (spliced (backTo pos (starEach es X.env))) (AP X pins σ Q) X.xe s
def PS (X : Cx) (st : Stmt) (t : TS) : Prop :=
 ∀ (pins : List (Addr × Obj)) (s : Shared) (σ : St) (H : Hp) (D : Ends), Inv X pins σ H s -> t D σ H -> wpAny (model X.prog X.w) X.A (exec st X.env) (SP X pins D) X.xe s
def PSs (X : Cx) (st : List Stmt) (t : TS) : Prop :=
 ∀ (pins : List (Addr × Obj)) (s : Shared) (σ : St) (H : Hp) (D : Ends), Inv X pins σ H s -> t D σ H -> wpAny (model X.prog X.w) X.A (execs st X.env) (SP X pins D) X.xe s
theorem thn {α : Type} {t : Sem α} {Q Q' : α -> Shared -> Prop} {M : Model} {A : Around} {E : Value -> Shared -> Prop} {s : Shared} (h : wpAny M A t Q E s) (hQ : ∀ a s, Q a s -> Q' a s) : wpAny M A t Q' E s := wpAny_mono h hQ fun _ _ x => x
end L2
namespace L2
open PySem PySem.Spec PyProof.Rows
section
variable {X : Cx}
def tVar (i : Nat) : TE := fun σ H Q => ∃ v, σ[i]? = some (some v) /\ Q v H
def tC (v : V) : TE := fun _ H Q => Q v H
theorem oD0 {i : Nat} {x : Str} {pos : Pos} (hN : X.N[i]? = some x) (hv : Vis X.env.scope x) (hd : (x == ("__debug__" : Str)) = false := by decide) (hcd : (x == ("__classdict__" : Str)) = false := by decide) : PE X (.Name x pos) (tVar i) := by
 intro pins s σ H Q I h
 obtain ⟨v, e, h⟩ := h
 obtain ⟨m, hn, hl⟩ := I.loc
 obtain ⟨u, r, l⟩ := hl i x v hN e hv
 have fin : EP X pins σ Q u s := ⟨v, H, I, r, h⟩
 rcases l with ⟨hk, hm⟩ | ⟨hk, c, hc, hcell⟩
 ·exact wpAny_Name (wpAny_loadName_local I.ok.kind hk hn hm fin) hd
 ·rcases hk with hk | hk
  ·exact wpAny_Name (wpAny_loadName_cell I.ok.kind hk hc hcell fin) hd
  ·exact wpAny_Name (wpAny_loadName_free I.ok.kind hk hc hcell fin hcd) hd
theorem ei0 {i j pos} : PE X (.Constant (.int i) j pos) (tC (.int i)) := fun _ _ _ H _ I h => wpAny_Constant_int ⟨.int i, H, I.tok _, ⟨_, rfl⟩, h⟩
theorem pe_bl {b j pos} : PE X (.Constant (.bool b) j pos) (tC (.bl b)) := fun _ _ _ H _ I h => Constant_bool ⟨.bl b, H, I, rfl, h⟩
theorem mt0 {x j pos} : PE X (.Constant (.str x) j pos) (tC (.str x)) := fun _ _ _ H _ I h => Calls.Constant_str ⟨.str x, H, I.tok _, ⟨_, rfl⟩, h⟩
def Gl (X : Cx) (x : Str) : Prop := X.env.kindOf x = some .globalImplicit
theorem fY0 {E : Value -> Shared -> Prop} {pins : List (Addr × Obj)} {s : Shared} {σ : St} {H : Hp} {x : Str} {u : Value} {pos : Pos} {Q : Value -> Shared -> Prop} (I : Inv X pins σ H s) (hg : Gl X x) (hm : X.mg x = some u) (h : Q u s)
  (hd : (x == ("__debug__" : Str)) = false := by decide) : wpAny (model X.prog X.w) X.A (eval (.Name x pos) X.env) Q E s :=
 Calls.Name_function_global I.ok.kind hg (Calls.loadGlobal_global (by rw [I.ok.glob]; exact I.mod.glob.keeps I.bk) hm h) hd
theorem ee0 {E : Value -> Shared -> Prop} {pins : List (Addr × Obj)} {s : Shared} {σ : St} {H : Hp} {x : Str} {u : Value} {pos : Pos} {Q : Value -> Shared -> Prop} (I : Inv X pins σ H s) (hg : Gl X x) (hm : X.mg x = none) (hv : bootBuiltins x = some u) (h : Q u s)
  (hn : x ≠ "__name__" := by decide) (hd : (x == ("__debug__" : Str)) = false := by decide) : wpAny (model X.prog X.w) X.A (eval (.Name x pos) X.env) Q E s := by
 obtain ⟨mb, h1, h2⟩ := I.mod.blt
 exact Calls.Name_function_global I.ok.kind hg (Calls.loadGlobal_builtin (by rw [I.ok.glob]; exact I.mod.glob.keeps I.bk) hm (by rw [I.ok.blt]; exact h1.keeps I.bk) ((h2 x hn).trans hv) h) hd
theorem mG0 {x : Str} {v : V} {u : Value} {pos : Pos} (hg : Gl X x) (hm : X.mg x = some u) (r : RelV v u) (hd : (x == ("__debug__" : Str)) = false := by decide) : PE X (.Name x pos) (tC v) :=
 fun _ _ _ H _ I h => fY0 I hg hm ⟨v, H, I, r, h⟩ hd
theorem nd0 {x : Str} {v : V} {u : Value} {pos : Pos} (hg : Gl X x) (hm : X.mg x = none) (hv : bootBuiltins x = some u) (r : RelV v u) (hn : x ≠ "__name__" := by decide) (hd : (x == ("__debug__" : Str)) = false := by decide) : PE X (.Name x pos) (tC v) :=
 fun _ _ _ H _ I h => ee0 I hg hm hv ⟨v, H, I, r, h⟩ hn hd
variable {a b : Expr} {ta tb : TE} {pos : Pos}
def tB (t : TE) : TT := fun σ H Q => t σ H fun x H1 => ∃ c, x = .bl c /\ Q c H1
theorem oP0 {e : Expr} {t : TE} (h : PE X e t) (he : ∀ whole, isTrue e X.env whole = (do let v <- whole; standAt e.pos; holding [v] (truthy v)) := by intro _; rfl) : PT X e (tB t) := by
 intro pins s σ H Q I hw
 refine isTrue_plain (thn (h pins s σ H _ I hw) fun v s1 ⟨x, H1, I1, r1, q1⟩ => ?_) (he _)
 obtain ⟨d, rfl, q⟩ := q1
 cases r1
 exact wpAny_truthy_bool ⟨H1, I1, q⟩
variable {tA tB' : TT} {rest : List Expr}
def tAnd (t u : TT) : TT := fun σ H Q => t σ H fun c H1 => if c = true then u σ H1 Q else Q false H1
def tOr (t u : TT) : TT := fun σ H Q => t σ H fun c H1 => if c = true then Q true H1 else u σ H1 Q
def tNot (t : TT) : TT := fun σ H Q => t σ H fun c H1 => Q (!c) H1
theorem nK0 (ha : PT X a tA) : PW X (.BoolOp .And [a] pos) tA := by
 intro wh pins s σ H Q I h
 refine isTrue_and (thn (ha pins s σ H Q I h) fun c s1 e => ?_)
 cases c with
 | true => exact isTrue_and_nil e
 | false => exact e
theorem or0 (ha : PT X a tA) : PW X (.BoolOp .Or [a] pos) tA := by
 intro wh pins s σ H Q I h
 refine isTrue_or (thn (ha pins s σ H Q I h) fun c s1 e => ?_)
 cases c with
 | false => exact isTrue_or_nil e
 | true => exact e
theorem on0 (ha : PT X a tA) (hb : PW X (.BoolOp .And (b :: rest) pos) tB') : PW X (.BoolOp .And (a :: b :: rest) pos) (tAnd tA tB') := by
 intro wh pins s σ H Q I h
 refine isTrue_and (thn (ha pins s σ H _ I h) fun c s1 ⟨H1, I1, q1⟩ => ?_)
 cases c with
 | true => exact hb wh pins s1 σ H1 Q I1 q1
 | false => exact ⟨H1, I1, q1⟩
theorem pw_or (ha : PT X a tA) (hb : PW X (.BoolOp .Or (b :: rest) pos) tB') : PW X (.BoolOp .Or (a :: b :: rest) pos) (tOr tA tB') := by
 intro wh pins s σ H Q I h
 refine isTrue_or (thn (ha pins s σ H _ I h) fun c s1 ⟨H1, I1, q1⟩ => ?_)
 cases c with
 | true => exact ⟨H1, I1, q1⟩
 | false => exact hb wh pins s1 σ H1 Q I1 q1
theorem oM0 (ha : PT X a tA) : PT X (.UnaryOp .Not a pos) (tNot tA) := by
 intro pins s σ H Q I h
 exact isTrue_not (ha pins s σ H (fun c H1 => Q (!c) H1) I h)
def tAndV (ta tb : TE) : TE := fun σ H Q => ta σ H fun x H1 => ∃ c, x = .bl c /\ if c = true then tb σ H1 Q else Q (.bl false) H1
def tOrV (ta tb : TE) : TE := fun σ H Q => ta σ H fun x H1 => ∃ c, x = .bl c /\ if c = true then Q (.bl true) H1 else tb σ H1 Q
def tNotV (ta : TE) : TE := fun σ H Q => ta σ H fun x H1 => ∃ c, x = .bl c /\ Q (.bl (!c)) H1
theorem oZ0 {op} {t : TE} (h : PE X a t) : PE X (.BoolOp op [a] pos) t := fun pins s σ H Q I hw => BoolOp_one (h pins s σ H Q I hw)
theorem ow0 (ha : PE X a ta) (hb : PE X (.BoolOp .And (b :: rest) pos) tb) : PE X (.BoolOp .And (a :: b :: rest) pos) (tAndV ta tb) := by
 intro pins s σ H Q I h
 refine BoolOp_and (thn (ha pins s σ H _ I h) fun v s1 ⟨x, H1, I1, r1, q1⟩ => ?_)
 obtain ⟨c, rfl, q1⟩ := q1
 cases r1
 refine wpAny_truthy_bool ?_
 cases c with
 | true => exact hb pins s1 σ H1 Q I1 q1
 | false => exact ⟨.bl false, H1, I1, rfl, q1⟩
theorem pe_or (ha : PE X a ta) (hb : PE X (.BoolOp .Or (b :: rest) pos) tb) : PE X (.BoolOp .Or (a :: b :: rest) pos) (tOrV ta tb) := by
 intro pins s σ H Q I h
 refine BoolOp_or (thn (ha pins s σ H _ I h) fun v s1 ⟨x, H1, I1, r1, q1⟩ => ?_)
 obtain ⟨c, rfl, q1⟩ := q1
 cases r1
 refine wpAny_truthy_bool ?_
 cases c with
 | false => exact hb pins s1 σ H1 Q I1 q1
 | true => exact ⟨.bl true, H1, I1, rfl, q1⟩
theorem pf0 (ha : PE X a ta) : PE X (.UnaryOp .Not a pos) (tNotV ta) := by
 intro pins s σ H Q I h
 refine UnaryOp_ (thn (ha pins s σ H _ I h) fun v s1 ⟨x, H1, I1, r1, q1⟩ => ?_)
 obtain ⟨c, rfl, q1⟩ := q1
 cases r1
 exact not_of (wpAny_truthy_bool ⟨.bl (!c), H1, I1, rfl, q1⟩)
end
end L2
namespace L2
open PySem PySem.Spec PyProof.Rows
def SqL (K : PySem.W.Frag) (H : Hp) (a : Addr) (xs : List V) : Prop :=
 Rd H a (.lst xs) \/
  ∃ (o : Obj) (its : Array Value) (n : Nat), K.lookup a = some o /\ o.cls = .type "list" /\ o.dict = none /\ o.data = .seq its n /\ its.size <= sizeLine /\ Vals xs its.toList
def SqT (K : PySem.W.Frag) (H : Hp) (a : Addr) (xs : List V) : Prop :=
 Rd H a (.tup xs) \/
  ∃ (o : Obj) (its : Array Value) (n : Nat), K.lookup a = some o /\ o.cls = .type "tuple" /\ o.data = .seq its n /\ its.size <= sizeLine /\ Vals xs its.toList
def absV : Value -> Option V
 | .none => some .non
 | .bool b => some (.bl b)
 | .int i _ => some (.int i)
 | .str x _ => some (.str x)
 | .bytes b _ => some (.byt b)
 | .float b _ => some (.flt b)
 | .ref a => some (.ref a)
 | .type n => some (.ty n)
 | _ => none
theorem RelV.abs {x : V} {u : Value} (r : RelV x u) : absV u = some x := by
 cases x with
 | non => cases r; rfl
 | bl _ => cases r; rfl
 | int _ => obtain ⟨t, rfl⟩ := r; rfl
 | str _ => obtain ⟨t, rfl⟩ := r; rfl
 | byt _ => obtain ⟨t, rfl⟩ := r; rfl
 | flt _ => obtain ⟨t, rfl⟩ := r; rfl
 | ref _ => cases r; rfl
 | ty _ => cases r; rfl
theorem RelV.inj {x y : V} {u : Value} (r : RelV x u) (q : RelV y u) : x = y := Option.some.inj (r.abs.symm.trans q.abs)
theorem Vals.inj : ∀ {xs ys : List V} {us : List Value}, Vals xs us -> Vals ys us -> xs = ys
 | _, _, _, .nil, .nil => rfl
 | _, _, _, .cons r t, .cons r' t' => by rw [r.inj r', Vals.inj t t']
section
variable {X : Cx} {pins : List (Addr × Obj)} {σ : St} {H : Hp} {s : Shared} {a : Addr} {xs ys : List V}
theorem SqL.of {K : PySem.W.Frag} (h : H a = some (.lst xs)) : SqL K H a xs := .inl (.inl h)
theorem SqT.of {K : PySem.W.Frag} (h : H a = some (.tup xs)) : SqT K H a xs := .inl (.inl h)
theorem Inv.list (I : Inv X pins σ H s) (h : SqL X.K H a xs) : ∃ its : List Value, Vals xs its /\ PlainL s.heap a its.toArray /\ xs.length <= sizeLine := by
 rcases h with h | ⟨o, its, n, hk, hc, hd, hs, hz, r⟩
 ·obtain ⟨z, its, n, r, e⟩ := h.ok I.hok
  exact ⟨its, r, ⟨_, n, e, rfl, rfl, rfl⟩, z⟩
 ·refine ⟨its.toList, r, ⟨o, n, I.kIn a o hk, hc, hd, by simpa using hs⟩, ?_⟩
  have e := r.length
  simp only [Array.length_toList] at e
  omega
theorem Inv.tuple (I : Inv X pins σ H s) (h : SqT X.K H a xs) : ∃ its : List Value, Vals xs its /\ IsTup s.heap a its.toArray /\ xs.length <= sizeLine := by
 rcases h with h | ⟨o, its, n, hk, hc, hs, hz, r⟩
 ·obtain ⟨z, its, r, p⟩ := h.ok I.hok
  exact ⟨its, r, p.1, z⟩
 ·refine ⟨its.toList, r, ⟨o, I.kIn a o hk, hc, n, by simpa using hs⟩, ?_⟩
  have e := r.length
  simp only [Array.length_toList] at e
  omega
theorem Inv.list_inj (I : Inv X pins σ H s) (h : SqL X.K H a xs) (h' : SqL X.K H a ys) : xs = ys := by
 obtain ⟨its, r, ⟨o, n, e, _, _, d⟩, _⟩ := I.list h
 obtain ⟨its', r', ⟨o', n', e', _, _, d'⟩, _⟩ := I.list h'
 rw [e] at e'; cases e'
 rw [d] at d'
 injection d' with d1 _
 have : its = its' := by simpa using congrArg Array.toList d1
 subst this
 exact r.inj r'
theorem Inv.tuple_inj (I : Inv X pins σ H s) (h : SqT X.K H a xs) (h' : SqT X.K H a ys) : xs = ys := by
 obtain ⟨its, r, ⟨o, e, _, n, d⟩, _⟩ := I.tuple h
 obtain ⟨its', r', ⟨o', e', _, n', d'⟩, _⟩ := I.tuple h'
 rw [e] at e'; cases e'
 rw [d] at d'
 injection d' with d1 _
 have : its = its' := by simpa using congrArg Array.toList d1
 subst this
 exact r.inj r'
end
abbrev Cx.wish (X : Cx) (E : Value -> Shared -> Prop) : Cx := { X with xe := E }
abbrev Cx.nox (X : Cx) : Cx := X.wish fun _ _ => False
theorem Cx.Ok.wish {X : Cx} (ok : X.Ok) (E : Value -> Shared -> Prop) : (X.wish E).Ok :=
 ⟨ok.mod, ok.kind, ok.glob, ok.blt, ok.above, ok.inj, ok.has, ok.cab, ok.hd, ok.frames, ok.stk, ok.exf, ok.bs, ok.bsz, ok.noex, ok.exfs, ok.funs, ok.frf⟩
theorem Cx.Ok.unwish {X : Cx} {E : Value -> Shared -> Prop} (ok : (X.wish E).Ok) : X.Ok :=
 ⟨ok.mod, ok.kind, ok.glob, ok.blt, ok.above, ok.inj, ok.has, ok.cab, ok.hd, ok.frames, ok.stk, ok.exf, ok.bs, ok.bsz, ok.noex, ok.exfs, ok.funs, ok.frf⟩
section
variable {X : Cx} {pins : List (Addr × Obj)} {σ : St} {H : Hp} {s : Shared} {E : Value -> Shared -> Prop}
theorem Inv.wish (I : Inv X pins σ H s) (E : Value -> Shared -> Prop) : Inv (X.wish E) pins σ H s := ⟨I.ok.wish E, I.os, I.bare, I.base, I.loc, I.cell, I.free, I.freeC, I.pin, I.hok, I.len⟩
theorem Inv.unwish (I : Inv (X.wish E) pins σ H s) : Inv X pins σ H s := ⟨I.ok.unwish, I.os, I.bare, I.base, I.loc, I.cell, I.free, I.freeC, I.pin, I.hok, I.len⟩
theorem SP.unwish {D : Ends} {f : Flow} {s' : Shared} (h : SP (X.wish E) pins D f s') : SP X pins D f s' := by
 cases f with
 | next => obtain ⟨σ', H', I, q⟩ := h; exact ⟨σ', H', I.unwish, q⟩
 | brk => obtain ⟨σ', H', I, q⟩ := h; exact ⟨σ', H', I.unwish, q⟩
 | cont => obtain ⟨σ', H', I, q⟩ := h; exact ⟨σ', H', I.unwish, q⟩
 | ret u => obtain ⟨v, σ', H', I, r, q⟩ := h; exact ⟨v, σ', H', I.unwish, r, q⟩
theorem PSs.nox {st : List Stmt} {t : TS} (h : PSs X.nox st t) : PSs X st t := fun pins s σ H D I hw =>
 wpAny_mono (h pins s σ H D (I.wish _) hw) (fun _ _ q => q.unwish) fun _ _ z => False.elim z
end
section
variable {X : Cx} {st : Stmt} {rest : List Stmt} {t u : TS} {e : Expr} {te : TE} {pos : Pos}
def tNext : TS := fun D σ H => D.nx σ H
def tSeq (t u : TS) : TS := fun D σ H => t { D with nx := u D } σ H
theorem mY0 : PSs X [] tNext := fun _ _ σ H _ I h => wpAny_execs_nil ⟨σ, H, I, h⟩
theorem aS0 (h1 : PS X st t) (h2 : PSs X rest u) : PSs X (st :: rest) (tSeq t u) := by
 intro pins s σ H D I h
 refine wpAny_execs_cons (thn (h1 pins s σ H { D with nx := u D } I h) fun f s1 q => ?_)
 cases f with
 | next =>
  obtain ⟨σ', H', I', q⟩ := q
  exact h2 pins s1 σ' H' D I' q
 | ret v => exact q
 | brk => exact q
 | cont => exact q
theorem eS0 (h1 : PS X st t) : PSs X [st] t := by
 intro pins s σ H D I h
 refine wpAny_execs_cons (thn (h1 pins s σ H D I h) fun f s1 q => ?_)
 cases f with
 | next => exact wpAny_execs_nil q
 | ret v => exact q
 | brk => exact q
 | cont => exact q
theorem Inv.quiet {pins : List (Addr × Obj)} {σ : St} {H : Hp} {s : Shared} (I : Inv X pins σ H s) : interactive X.env = false := by simp [interactive, I.ok.kind]
def ij0 (te : TE) : TS := fun D σ H => te σ H fun _ H1 => D.nx σ H1
theorem cw0 (he : PE X e te) (hs : swapsWith e none pos.line X.env = pure false := by rfl) : PS X (.Expr e pos) (ij0 te) := by
 intro pins s σ H D I h
 exact wpAny_Expr_any (thn (he pins s σ H _ I h) fun v s1 ⟨x, H1, I1, r1, q1⟩ => ⟨σ, H1, I1, q1⟩) I.quiet hs
def tRet (te : TE) : TS := fun D σ H => te σ H D.rt
theorem gz0 (he : PE X e te) : PS X (.Return (some e) pos) (tRet te) := by
 intro pins s σ H D I h
 exact wpAny_Return_some (thn (he pins s σ H _ I h) fun v s1 ⟨x, H1, I1, r1, q1⟩ => ⟨x, σ, H1, I1, r1, q1⟩)
def tIfS (c : TT) (t u : TS) : TS := fun D σ H => c σ H fun b H1 => if b = true then t D σ H1 else u D σ H1
theorem ps_if {c : Expr} {a b : List Stmt} {tc : TT} (hc : PT X c tc) (ha : PSs X a t) (hb : PSs X b u) : PS X (.If c a b pos) (tIfS tc t u) := by
 intro pins s σ H D I h
 refine wpAny_If (thn (hc pins s σ H _ I h) fun d s1 ⟨H1, I1, q1⟩ => ?_)
 cases d with
 | true => exact ha pins s1 σ H1 D I1 q1
 | false => exact hb pins s1 σ H1 D I1 q1
def oj0 : TS := fun _ _ _ => False
theorem ln0 : PS X st oj0 := fun _ _ _ _ _ _ h => h.elim
end
abbrev TG := V -> St -> Hp -> (St -> Hp -> Prop) -> Prop
abbrev TGs := List V -> St -> Hp -> (St -> Hp -> Prop) -> Prop
def PG (X : Cx) (target : Expr) (t : TG) : Prop :=
 ∀ (pins : List (Addr × Obj)) (s : Shared) (σ : St) (H : Hp) (v : V) (u : Value) (Q : St -> Hp -> Prop), Inv X pins σ H s -> RelV v u -> t v σ H Q ->
  wpAny (model X.prog X.w) X.A (assign target X.env u) (fun _ s' => ∃ σ' H', Inv X pins σ' H' s' /\ Q σ' H') X.xe s
def PGs (X : Cx) (ts : List Expr) (t : TGs) : Prop :=
 ∀ (pins : List (Addr × Obj)) (s : Shared) (σ : St) (H : Hp) (vs : List V) (us : List Value) (Q : St -> Hp -> Prop), Inv X pins σ H s -> Vals vs us -> t vs σ H Q ->
  wpAny (model X.prog X.w) X.A (assignInOrder ((assignEach ts X.env).map (·.2)) us) (fun _ s' => ∃ σ' H', Inv X pins σ' H' s' /\ Q σ' H') X.xe s
section
variable {X : Cx} {pos : Pos}
def bZ0 (i : Nat) : TG := fun v σ H Q => Q (σ.set i (some v)) H
theorem as0 {i : Nat} {x : Str} (hN : X.N.Nodup) (hi : X.N[i]? = some x) (hx : Loc X.env.scope x) (hf : X.fn x = true \/ X.env.scope.names.lookup x = some .local := by first | exact .inl rfl | exact .inr rfl | assumption) : PG X (.Name x pos) (bZ0 i) := by
 intro pins s σ H v u Q I r h
 exact wpAny_assign_Name (gO0 I hN hi hx r (fun s' I' => ⟨_, H, I', h⟩) hf)
def gNil : TGs := fun vs σ H Q => vs = [] /\ Q σ H
def fl0 (t : TG) (u : TGs) : TGs := fun vs σ H Q => ∃ v r, vs = v :: r /\ t v σ H fun σ' H' => u r σ' H' Q
theorem dn0 : PGs X [] gNil := by
 intro pins s σ H vs us Q I r h
 obtain ⟨e, h⟩ := h
 subst e
 cases r
 exact assignInOrder_nil ⟨σ, H, I, h⟩
theorem bm0 {e : Expr} {es : List Expr} {t : TG} {u : TGs} (h1 : PG X e t) (h2 : PGs X es u)
  (hs : (assignEach (e :: es) X.env).map (·.2) = assign e X.env :: (assignEach es X.env).map (·.2) := by rfl) : PGs X (e :: es) (fl0 t u) := by
 intro pins s σ H vs us Q I r h
 obtain ⟨v, vr, e1, h⟩ := h
 subst e1
 cases r with
 | cons r rr =>
  rw [hs]
  refine assignInOrder_cons (thn (h1 pins s σ H _ _ _ I r h) fun _ s1 ⟨σ1, H1, I1, q1⟩ => ?_)
  exact h2 pins s1 σ1 H1 _ _ Q I1 rr q1
def gTup (K : PySem.W.Frag) (n : Nat) (t : TGs) : TG := fun v σ H Q => ∃ a xs, v = .ref a /\ SqT K H a xs /\ xs.length = n /\ t xs σ H Q
theorem eu0 {es : List Expr} {k : Nat} {t : TGs} {n : Nat} (hc : X.calm = true) (h : PGs X es t)
  (hn : (assignEach es X.env).length = n := by rfl) (hst : (assignEach es X.env).findIdx? (·.1) = none := by rfl) : PG X (.Tuple es k pos) (gTup X.K n t) := by
 intro pins s σ H v u Q I r hw
 obtain ⟨a, xs, e1, hq, hl, hw⟩ := hw
 subst e1
 cases r
 obtain ⟨its, rv, ht, hz⟩ := I.tuple hq
 refine assign_Tuple_tuple (I.ok.hd hc) ht (by simp [hn, <- hl, rv.length]) hst fun h' hx => ?_
 have I1 : Inv X pins σ H { s with heap := h' } := I.kept (t' := s.toks) fun b o e => hx b o (Nat.ne_of_lt (Heap.lt_size e)) e
 exact h pins _ σ H xs _ Q I1 (by simpa using rv) hw
def tAsg (te : TE) (g : TG) : TS := fun D σ H => te σ H fun x H1 => g x σ H1 D.nx
theorem gG0 {i : Nat} {x : Str} {e : Expr} {te : TE} {pos' : Pos} (hN : X.N.Nodup) (hi : X.N[i]? = some x) (hx : Loc X.env.scope x) (he : PE X e te) (hs : swapsWith e (some (.Name x pos')) pos.line X.env = pure false := by rfl) (hf : X.fn x = true \/ X.env.scope.names.lookup x = some .local := by first | exact .inl rfl | exact .inr rfl | assumption) :
  PS X (.Assign [.Name x pos'] e pos) (tAsg te (bZ0 i)) := by
 intro pins s σ H D I h
 refine wpAny_Assign_Name (thn (he pins s σ H _ I h) fun v s1 ⟨y, H1, I1, r1, q1⟩ => ?_) hs
 exact gO0 I1 hN hi hx r1 (fun s2 I2 => ⟨_, H1, I2, q1⟩) hf
end
section
variable {X : Cx} {pos : Pos}
end
structure It where
 go : Nat -> Hp -> Prop
 yld : Nat -> Hp -> V -> Hp -> Prop
 stop : Nat -> Hp -> Prop
def FpOk (X : Cx) (pins : List (Addr × Obj)) (H : Hp) (b : Addr) : Prop :=
 H b = none /\ b ≠ X.env.locals /\ b ∉ X.fs /\ (b ∈ X.ex \/ X.s₀.heap.objs.size <= b) /\ (∀ x c, X.env.cells.lookup x = some c -> c ≠ b) /\ ∀ p ∈ X.pn ++ pins, p.1 ≠ b
theorem Inv.fpOk {X : Cx} {pins : List (Addr × Obj)} {σ : St} {H H' : Hp} {s : Shared} {b : Addr} (I : Inv X pins σ H s) (hb : s.heap.objs.size <= b) (hn : H' b = none) : FpOk X pins H' b := by
 refine ⟨hn, Nat.ne_of_gt (Nat.lt_of_lt_of_le I.lt hb), I.nofs hb, .inr (Nat.le_trans I.sz hb), fun x c e z => ?_, fun p hp z => ?_⟩
 ·obtain ⟨v, q⟩ := I.cell x c e
  exact absurd (Nat.lt_of_lt_of_le q.lt (by rw [z]; exact hb)) (Nat.lt_irrefl _)
 ·exact absurd (Nat.lt_of_lt_of_le (Heap.lt_size (I.pin p hp).1) (by rw [z]; exact hb)) (Nat.lt_irrefl _)
structure Turn (P : Program) (w : World) (K : PySem.W.Frag) (tg : Expr) (J : It) (fp : List Addr) (it : Addr) (tn : Nat -> Heap -> Prop) : Prop where
 mem : it ∈ fp
 obj : ∀ i h, tn i h -> ∀ b ∈ fp, ∃ o, h.get? b = some o /\ ∀ v, o.data ≠ .cell v
 keep : ∀ i h h', tn i h -> (∀ b ∈ fp, ∀ o, h.get? b = some o -> h'.get? b = some o) -> tn i h'
 item : ∀ (X : Cx), X.prog = P -> X.w = w -> X.K = K -> X.calm = true -> ∀ (i : Nat) (pins : List (Addr × Obj)) (s : Shared) (σ : St) (H : Hp) (E : Value -> Shared -> Prop), Inv X pins σ H s -> (∀ b ∈ fp, FpOk X pins H b) -> tn i s.heap -> J.go i H ->
  wpAny (model P w) X.A (pyNext (.ref it)) (fun r s1 => ∃ u, r = some u /\
   wpAny (model P w) X.A (letOwnedTupleGo tg (.ref it) u) (fun _ s2 => ∃ x H', Inv X pins σ H' s2 /\ RelV x u /\ J.yld i H x H' /\ tn (i + 1) s2.heap /\ ∀ b ∈ fp, H' b = none) E s1) E s
 done : ∀ (X : Cx), X.prog = P -> X.w = w -> X.K = K -> X.calm = true -> ∀ (i : Nat) (pins : List (Addr × Obj)) (s : Shared) (σ : St) (H : Hp) (E : Value -> Shared -> Prop), Inv X pins σ H s -> (∀ b ∈ fp, FpOk X pins H b) -> tn i s.heap -> J.stop i H ->
  wpAny (model P w) X.A (pyNext (.ref it)) (fun r s1 => r = none /\ Inv X pins σ H s1) E s
 self : ∀ (A : Around) (i : Nat) (s : Shared) (Q : Value -> Shared -> Prop) (E : Value -> Shared -> Prop), tn i s.heap -> Q (.ref it) s -> wpAny (model P w) A (pyIter (.ref it)) Q E s
abbrev TI := St -> Hp -> (It -> Hp -> Prop) -> Prop
def PIE (X : Cx) (pins : List (Addr × Obj)) (σ : St) (tg : Expr) (R : It -> Hp -> Prop) (itv : Value) (s2 : Shared) : Prop :=
 ∃ (it : Addr) (fp : List Addr) (tn : Nat -> Heap -> Prop) (J : It) (H' : Hp), itv = .ref it /\ Inv X pins σ H' s2 /\ Turn X.prog X.w X.K tg J fp it tn /\ tn 0 s2.heap /\ (∀ b ∈ fp, FpOk X pins H' b) /\ R J H'
def PI (X : Cx) (tg iter : Expr) (wi : TI) : Prop :=
 ∀ (pins : List (Addr × Obj)) (s : Shared) (σ : St) (H : Hp) (R : It -> Hp -> Prop), Inv X pins σ H s -> wi σ H R ->
  wpAny (model X.prog X.w) X.A (eval iter X.env) (fun v s1 => wpAny (model X.prog X.w) X.A (pyIter v) (PIE X pins σ tg R) X.xe s1) X.xe s
theorem mc0 {M : Model} {A : Around} {E : Value -> Shared -> Prop} {s : Shared} {tg : Expr} {it : Addr} {u : Value} {o : Obj} {n : String} {vs : Array Value} {Q : Unit -> Shared -> Prop} (ho : s.heap.get? it = some o) (hc : o.cls = .type n) (hd : o.data = .fields vs)
    (hn : ["enumerate", "zip", "dict_itemiterator", "dict_reverseitemiterator", "odict_iterator", "itertools.zip_longest", "itertools.pairwise"].contains n = false) (hQ : Q () s) : wpAny M A (letOwnedTupleGo tg (.ref it) u) Q E s := by
  unfold letOwnedTupleGo
  cases tg <;> first
    | exact wpAny_pure hQ
    | (cases u <;> first
        | exact wpAny_pure hQ
        | (refine wpAny_bind (wpAny_load ho ?_)
           rw [hc, hd]
           show wpAny M A (if (["enumerate", "zip", "dict_itemiterator", "dict_reverseitemiterator", "odict_iterator", "itertools.zip_longest", "itertools.pairwise"].contains n && vs[0]? == some (rawInt _)) = true then _ else _) Q E s
           rw [if_neg (by intro h; rw [hn, Bool.false_and] at h; cases h)]
           exact wpAny_pure hQ))
def Itl (K : PySem.W.Frag) (a : Addr) : It :=
 ⟨fun i H => ∃ xs x, SqL K H a xs /\ xs[i]? = some x, fun i H x H' => H' = H /\ ∀ xs, SqL K H a xs -> xs[i]? = some x, fun i H => ∃ xs, SqL K H a xs /\ xs.length <= i⟩
def Itt (K : PySem.W.Frag) (a : Addr) : It :=
 ⟨fun i H => ∃ xs x, SqT K H a xs /\ xs[i]? = some x, fun i H x H' => H' = H /\ ∀ xs, SqT K H a xs -> xs[i]? = some x, fun i H => ∃ xs, SqT K H a xs /\ xs.length <= i⟩
def Itr (lo : Int) (n : Nat) : It := ⟨fun i _ => i < n, fun i H x H' => H' = H /\ x = .int (lo + i), fun i _ => n <= i⟩
theorem iX0 {P : Program} {w : World} {K : PySem.W.Frag} {tg : Expr} (a it : Addr) : Turn P w K tg (Itl K a) [it] it (fun i h => h.IsListIter it a i) where
 mem := by simp
 obj := fun i h st b hb => by
  have e : b = it := by simpa using hb
  subst e
  obtain ⟨o, e, c, d⟩ := st
  exact ⟨o, e, fun v z => by rw [d] at z; cases z⟩
 keep := fun i h h' st k => st.at fun o e => k it (by simp) o e
 item := by
  intro X hP hw hK hc i pins s σ H E I hf st hg
  subst hP hw hK
  obtain ⟨xs, x, hq, hx⟩ := hg
  obtain ⟨its, rv, p, hz⟩ := I.list hq
  obtain ⟨u, hu, ru⟩ := rv.get hx
  obtain ⟨f0, f1, f2, f3, f4, f5⟩ := hf it (by simp)
  refine wpAny_pyNext_list_item st p.isList (x := u) (by simpa using hu) fun h' st' sb => ?_
  have I1 : Inv X pins σ H { s with heap := h' } := I.turned (t' := s.toks) (fun b o hb e => (sb.2 b hb).trans e) f0 f1 f3 f4 f5
  obtain ⟨o, e, c, d⟩ := id st'
  exact ⟨u, rfl, mc0 (s := { s with heap := h' }) e c d (by decide) ⟨x, H, I1, ru, ⟨rfl, fun ys hy => by rw [I.list_inj hy hq]; exact hx⟩, st', fun b hb => (hf b hb).1⟩⟩
 done := by
  intro X hP hw hK hc i pins s σ H E I hf st hg
  subst hP hw hK
  obtain ⟨xs, hq, hx⟩ := hg
  obtain ⟨its, rv, p, hz⟩ := I.list hq
  obtain ⟨f0, f1, f2, f3, f4, f5⟩ := hf it (by simp)
  have hl := rv.length
  exact wpAny_pyNext_list_end (I.ok.hd hc) st p.isList (by simp; omega) fun h' eb => ⟨rfl, I.turned (t' := s.toks) (fun b o hb e => eb b o hb e) f0 f1 f3 f4 f5⟩
 self := fun _ _ _ _ _ st h => wpAny_pyIter_listiter st h
theorem ih0 {P : Program} {w : World} {K : PySem.W.Frag} {tg : Expr} (a it : Addr) : Turn P w K tg (Itt K a) [it] it (fun i h => h.IsTupleIter it a i) where
 mem := by simp
 obj := fun i h st b hb => by
  have e : b = it := by simpa using hb
  subst e
  obtain ⟨o, e, c, d⟩ := st
  exact ⟨o, e, fun v z => by rw [d] at z; cases z⟩
 keep := fun i h h' st k => st.at fun o e => k it (by simp) o e
 item := by
  intro X hP hw hK hc i pins s σ H E I hf st hg
  subst hP hw hK
  obtain ⟨xs, x, hq, hx⟩ := hg
  obtain ⟨its, rv, p, hz⟩ := I.tuple hq
  obtain ⟨u, hu, ru⟩ := rv.get hx
  obtain ⟨f0, f1, f2, f3, f4, f5⟩ := hf it (by simp)
  refine wpAny_pyNext_tuple_item st (show s.heap.IsTuple a its.toArray from p) (x := u) (by simpa using hu) fun h' st' sb => ?_
  have I1 : Inv X pins σ H { s with heap := h' } := I.turned (t' := s.toks) (fun b o hb e => (sb.2 b hb).trans e) f0 f1 f3 f4 f5
  obtain ⟨o, e, c, d⟩ := id st'
  exact ⟨u, rfl, mc0 (s := { s with heap := h' }) e c d (by decide) ⟨x, H, I1, ru, ⟨rfl, fun ys hy => by rw [I.tuple_inj hy hq]; exact hx⟩, st', fun b hb => (hf b hb).1⟩⟩
 done := by
  intro X hP hw hK hc i pins s σ H E I hf st hg
  subst hP hw hK
  obtain ⟨xs, hq, hx⟩ := hg
  obtain ⟨its, rv, p, hz⟩ := I.tuple hq
  obtain ⟨f0, f1, f2, f3, f4, f5⟩ := hf it (by simp)
  have hl := rv.length
  exact wpAny_pyNext_tuple_end (I.ok.hd hc) st (show s.heap.IsTuple a its.toArray from p) (by simp; omega) fun h' eb => ⟨rfl, I.turned (t' := s.toks) (fun b o hb e => eb b o hb e) f0 f1 f3 f4 f5⟩
 self := fun _ _ _ _ _ st h => wpAny_pyIter_tupleiter st h
theorem il0 {P : Program} {w : World} {K : PySem.W.Frag} {tg : Expr} (it : Addr) (lo : Int) (n : Nat) : Turn P w K tg (Itr lo n) [it] it (fun i h => IsRangeIter h it (lo + (i : Nat) * 1) ((n : Int) - (i : Nat)) 1) where
 mem := by simp
 obj := fun i h st b hb => by
  have e : b = it := by simpa using hb
  subst e
  exact ⟨_, st, fun v z => by
   have z' : Data.fields _ = Data.cell v := z
   cases z'⟩
 keep := fun i h h' st k => k it (by simp) _ st
 item := by
  intro X hP hw hK hc i pins s σ H E I hf st hg
  subst hP hw hK
  obtain ⟨f0, f1, f2, f3, f4, f5⟩ := hf it (by simp)
  have W := Walks.range (prog := X.prog) (w := X.w) (I.ok.hd hc) it lo 1 n
  refine W.item i s _ _ hg st fun v h' tk hv st' kk => ?_
  obtain ⟨t, rfl⟩ := hv
  have I1 : Inv X pins σ H { s with heap := h', toks := tk } := I.turned (fun b o hb e => kk b o (by simpa using hb) e) f0 f1 f3 f4 f5
  refine ⟨_, rfl, mc0 (s := { s with heap := h', toks := tk }) (n := "range_iterator") st' rfl rfl (by decide) ⟨.int (lo + i), H, I1, ⟨t, ?_⟩, ⟨rfl, rfl⟩, st', fun b hb => (hf b hb).1⟩⟩
  rw [Int.mul_one]
 done := by
  intro X hP hw hK hc i pins s σ H E I hf st hg
  subst hP hw hK
  obtain ⟨f0, f1, f2, f3, f4, f5⟩ := hf it (by simp)
  exact wpAny_pyNext_range_end (I.ok.hd hc) st (by have : n <= i := hg; omega) fun h' eb => ⟨rfl, I.turned (t' := s.toks) (fun b o hb e => eb b o hb e) f0 f1 f3 f4 f5⟩
 self := fun _ _ _ _ _ st h => wpAny_pyIter_rangeiter st h
end L2
namespace L2
open PySem PySem.Spec PyProof.Rows
section
variable {X : Cx} {tg : Expr}
def mX0 (K : PySem.W.Frag) (tl : TE) : TI := fun σ H R => tl σ H fun x H1 => ∃ a, x = .ref a /\ (∃ xs, SqL K H1 a xs) /\ R (Itl K a) H1
def iTup (K : PySem.W.Frag) (tl : TE) : TI := fun σ H R => tl σ H fun x H1 => ∃ a, x = .ref a /\ (∃ xs, SqT K H1 a xs) /\ R (Itt K a) H1
theorem kN0 {l : Expr} {tl : TE} (hl : PE X l tl) : PI X tg l (mX0 X.K tl) := by
 intro pins s σ H R I h
 refine thn (hl pins s σ H _ I h) fun v s1 ⟨x, H1, I1, r1, q1⟩ => ?_
 obtain ⟨a, e, ⟨xs, hq⟩, q⟩ := q1
 subst e
 cases r1
 obtain ⟨its, rv, p, hz⟩ := I1.list hq
 refine wpAny_pyIter_list p.isList ?_
 refine ⟨s1.heap.objs.size, [s1.heap.objs.size], _, _, H1, rfl, I1.kept (t' := s1.toks) fun b o e => Heap.get?_push_of_some _ e, iX0 a _, ⟨_, Heap.get?_push_size _ rfl, rfl, rfl⟩, fun b hb => ?_, q⟩
 have e : b = s1.heap.objs.size := by simpa using hb
 subst e
 exact I1.fpOk (Nat.le_refl _) (I1.hok.fresh (Nat.le_refl _))
theorem ot0 {l : Expr} {tl : TE} (hl : PE X l tl) : PI X tg l (iTup X.K tl) := by
 intro pins s σ H R I h
 refine thn (hl pins s σ H _ I h) fun v s1 ⟨x, H1, I1, r1, q1⟩ => ?_
 obtain ⟨a, e, ⟨xs, hq⟩, q⟩ := q1
 subst e
 cases r1
 obtain ⟨its, rv, p, hz⟩ := I1.tuple hq
 refine wpAny_pyIter_tuple (show s1.heap.IsTuple a its.toArray from p) ?_
 refine ⟨s1.heap.objs.size, [s1.heap.objs.size], _, _, H1, rfl, I1.kept (t' := s1.toks) fun b o e => Heap.get?_push_of_some _ e, ih0 a _, ⟨_, Heap.get?_push_size _ rfl, rfl, rfl⟩, fun b hb => ?_, q⟩
 have e : b = s1.heap.objs.size := by simpa using hb
 subst e
 exact I1.fpOk (Nat.le_refl _) (I1.hok.fresh (Nat.le_refl _))
theorem lI0 {pins : List (Addr × Obj)} {σ : St} {H : Hp} {s : Shared} {R : It -> Hp -> Prop} {E : Value -> Shared -> Prop} {lo hi : Int} {t u v : Tok} {tk : Nat} (I : Inv X pins σ H s) (h1 : -(2 ^ 62) <= lo) (h2 : lo < 2 ^ 62) (h3 : -(2 ^ 62) <= hi) (h4 : hi < 2 ^ 62)
  (q : R (Itr lo (hi - lo).toNat) H) : wpAny (model X.prog X.w) X.A (pyIter (.ref s.heap.objs.size)) (PIE X pins σ tg R) E { s with heap := s.heap.push { cls := .type "range", data := .fields #[.int lo t, .int hi u, .int 1 v] }, toks := tk } := by
 refine wpAny_pyIter_range (IsRange.new ..) (small_one h1 h2 h3 h4) ?_
 have I1 : Inv X pins σ H { s with heap := s.heap.push { cls := .type "range", data := .fields #[.int lo t, .int hi u, .int 1 v] }, toks := tk } := I.kept fun b o e => Heap.get?_push_of_some _ e
 refine ⟨(s.heap.push { cls := .type "range", data := .fields #[.int lo t, .int hi u, .int 1 v] }).objs.size, [(s.heap.push { cls := .type "range", data := .fields #[.int lo t, .int hi u, .int 1 v] }).objs.size], _, _, H, rfl,
  I1.kept (t' := tk) fun b o e => Heap.get?_push_of_some _ e, il0 _ lo (hi - lo).toNat, ?_, fun b hb => ?_, q⟩
 ·have e1 : lo + ((0 : Nat) : Int) * 1 = lo := by simp
  have e2 : (((hi - lo).toNat : Nat) : Int) - ((0 : Nat) : Int) = Builtin.Range.rangeSize lo hi 1 := by rw [rangeSize_one]; split <;> omega
  show IsRangeIter _ _ (lo + ((0 : Nat) : Int) * 1) ((((hi - lo).toNat : Nat) : Int) - ((0 : Nat) : Int)) 1
  rw [e1, e2]
  exact Heap.get?_push_size _ rfl
 ·have e : b = (s.heap.push { cls := .type "range", data := .fields #[.int lo t, .int hi u, .int 1 v] }).objs.size := by simpa using hb
  subst e
  exact I1.fpOk (Nat.le_refl _) (I1.hok.fresh (Nat.le_refl _))
def iRng1 (ta : TA) : TI := fun σ H R => ta σ H fun vs H1 => ∃ j : Int, vs = [.int j] /\ -(2 ^ 62) <= j /\ j < 2 ^ 62 /\ R (Itr 0 j.toNat) H1
theorem jQ0 {a : Expr} {ta : TA} {p pos : Pos} (hg : Gl X "range") (hm : X.mg "range" = none) (ha : PA X [a] ta) (hs : starEach [a] X.env = [(false, eval a X.env)] := by rfl) : PI X tg (.Call (.Name "range" p) [a] [] pos) (iRng1 ta) := by
 intro pins s σ H R I h
 refine Call_ (ee0 I hg hm boot_range (PyProof.Rows.callWith_type1 (thn (ha pos pins s σ H _ I h) fun us s1 ⟨vs, H1, I1, r1, q1⟩ => ?_) hs rfl))
 obtain ⟨j, e, q1, q2, q⟩ := q1
 subst e
 cases r1 with
 | cons r rr =>
  cases rr
  obtain ⟨t, rfl⟩ := r
  exact call_range_1 (lI0 I1 (by omega) (by omega) q1 q2 (by simpa using q))
def tFor (wi : TI) (g : TG) (tb : TS) : TS := fun D σ H => wi σ H fun J H1 => ∃ W : Nat -> Nat -> St -> Hp -> Prop, (∃ m, W 0 m σ H1) /\ ∀ i m σ H, W i m σ H ->
 (J.stop i H /\ D.nx σ H) \/ (J.go i H /\ ∃ N : St -> Hp -> Prop, (∀ σ' H', N σ' H' -> ∃ m', m' < m /\ W (i + 1) m' σ' H') /\ ∀ x H', J.yld i H x H' -> g x σ H' fun σ2 H2 => tb { D with nx := N, ct := N, bk := D.nx } σ2 H2)
def eg0 (fp : List Addr) (h : Heap) : List (Addr × Obj) := fp.filterMap fun b => (h.get? b).map fun o => (b, o)
theorem bT0 {fp : List Addr} {h : Heap} {b : Addr} {o : Obj} (hb : b ∈ fp) (e : h.get? b = some o) : (b, o) ∈ eg0 fp h := List.mem_filterMap.mpr ⟨b, hb, by rw [e]; rfl⟩
theorem fy0 {fp : List Addr} {h : Heap} {p : Addr × Obj} (hp : p ∈ eg0 fp h) : p.1 ∈ fp /\ h.get? p.1 = some p.2 := by
 obtain ⟨b, hb, e⟩ := List.mem_filterMap.mp hp
 cases q : h.get? b with
 | none => rw [q] at e; cases e
 | some o =>
  rw [q] at e
  have e' : (b, o) = p := Option.some.inj e
  subst e'
  exact ⟨hb, q⟩
theorem Inv.pinned {pins : List (Addr × Obj)} {σ : St} {H : Hp} {s : Shared} {fp : List Addr} (I : Inv X pins σ H s) (hf : ∀ b ∈ fp, FpOk X pins H b) (ho : ∀ b ∈ fp, ∃ o, s.heap.get? b = some o /\ ∀ v, o.data ≠ .cell v) : Inv X (pins ++ eg0 fp s.heap) σ H s :=
 I.pins_of fun p hp => (List.mem_append.mp hp).elim (fun z => I.pin p (List.mem_append_right _ z)) fun z => by
  obtain ⟨hb, e⟩ := fy0 z
  obtain ⟨f0, f1, f2, _⟩ := hf p.1 hb
  obtain ⟨o, e', d⟩ := ho p.1 hb
  rw [e] at e'; cases e'
  exact ⟨e, f0, f1, f2, d⟩
theorem Inv.unpinned {pins pl : List (Addr × Obj)} {σ : St} {H : Hp} {s : Shared} (I : Inv X (pins ++ pl) σ H s) : Inv X pins σ H s := I.pins_of fun p hp => I.pin p (List.mem_append_right _ (List.mem_append_left _ hp))
theorem mi0 {iter : Expr} {body : List Stmt} {wi : TI} {g : TG} {tb : TS} {pos : Pos} (hp : PassesOwn (model X.prog X.w) X.A X.env X.xe) (hc : X.calm = true) (hi : PI X tg iter wi) (hg : PG X tg g) (hb : PSs X body tb)
  (hs : ∀ x, foldedSetIterable iter X.env x = pure x := by intro _; rfl) : PS X (.For tg iter body [] pos) (tFor wi g tb) := by
 intro pins s σ H D I h
 refine wpAny_For (thn (hi pins s σ H _ I h) fun v s1 h1 => thn h1 fun itv s2 h2 => ?_) hs
 obtain ⟨it, fp, tn, J, H2, e, I2, T, st2, f2, W, ⟨m0, w0⟩, turn⟩ := h2
 subst e
 -- what stays true of the iterator's objects through the loop
 have stat : ∀ {H' : Hp}, (∀ b ∈ fp, H' b = none) -> ∀ b ∈ fp, FpOk X pins H' b := fun hn b hb => ⟨hn b hb, (f2 b hb).2⟩
 refine codeAny_forLoop_any (fun n s' => ∃ i σ' H', Inv X pins σ' H' s' /\ tn i s'.heap /\ (∀ b ∈ fp, H' b = none) /\ W i n σ' H') ?_ m0 ⟨0, σ, H2, I2, st2, fun b hb => (f2 b hb).1, w0⟩
 rintro n s3 ⟨i, σ3, H3, I3, st3, fr3, w3⟩
 rcases turn i n σ3 H3 w3 with ⟨stop, qn⟩ | ⟨go, N, hN, step⟩
 ·refine wpAny_passesOwn hp (thn (T.done X rfl rfl rfl hc i pins s3 σ3 H3 X.xe I3 (stat fr3) st3 stop) fun r s4 ⟨hr, I4⟩ => ?_)
  subst hr
  exact wpAny_execs_nil ⟨σ3, H3, I4, qn⟩
 ·refine wpAny_passesOwn hp (thn (T.item X rfl rfl rfl hc i pins s3 σ3 H3 X.xe I3 (stat fr3) st3 go) fun r s4 ⟨u, hr, h4⟩ => ?_)
  subst hr
  refine wpAny_passesOwn hp (thn h4 fun _ s5 ⟨x, H5, I5, r5, y5, st5, fr5⟩ => ?_)
  have I5' := I5.pinned (stat fr5) (T.obj _ _ st5)
  refine wpAny_passesOwn hp (thn (hg _ s5 σ3 H5 x u _ I5' r5 (step x H5 y5)) fun _ s6 ⟨σ6, H6, I6, q6⟩ => ?_)
  refine wpAny_passesOwn hp (thn (hb _ s6 σ6 H6 _ I6 q6) fun f s7 q7 => ?_)
  have again : ∀ {σ7 : St} {H7 : Hp}, Inv X (pins ++ eg0 fp s5.heap) σ7 H7 s7 -> N σ7 H7 -> ∃ m, m < n /\ ∃ i σ' H', Inv X pins σ' H' s7 /\ tn i s7.heap /\ (∀ b ∈ fp, H' b = none) /\ W i m σ' H' := fun {σ7 H7} I7 n7 => by
   obtain ⟨m', hm, w7⟩ := hN σ7 H7 n7
   refine ⟨m', hm, i + 1, σ7, H7, I7.unpinned, T.keep _ _ _ st5 fun b hb o e => (I7.pin (b, o) (List.mem_append_right _ (List.mem_append_right _ (bT0 hb e)))).1, fun b hb => ?_, w7⟩
   obtain ⟨o, e, d⟩ := T.obj _ _ st5 b hb
   exact (I7.pin (b, o) (List.mem_append_right _ (List.mem_append_right _ (bT0 hb e)))).2.1
  cases f with
  | next => obtain ⟨σ7, H7, I7, n7⟩ := q7; exact again I7 n7
  | cont => obtain ⟨σ7, H7, I7, n7⟩ := q7; exact again I7 n7
  | brk => obtain ⟨σ7, H7, I7, q7⟩ := q7; exact ⟨σ7, H7, I7.unpinned, q7⟩
  | ret v => obtain ⟨x7, σ7, H7, I7, r7, q7⟩ := q7; exact ⟨x7, σ7, H7, I7.unpinned, r7, q7⟩
end
end L2
namespace L2
open PySem PySem.Spec PyProof.Rows
abbrev R2 := V -> V -> Hp -> VK -> Prop
def OpR (X : Cx) (f : Value -> Value -> Sem Value) (r : R2) : Prop :=
 ∀ (pins : List (Addr × Obj)) (s : Shared) (σ : St) (H : Hp) (x y : V) (v u : Value) (Q : VK), Inv X pins σ H s -> RelV x v -> RelV y u -> r x y H Q ->
  wpAny (model X.prog X.w) X.A (f v u) (EP X pins σ Q) X.xe s
def UnR (X : Cx) (f : Value -> Sem Value) (r : V -> Hp -> VK -> Prop) : Prop :=
 ∀ (pins : List (Addr × Obj)) (s : Shared) (σ : St) (H : Hp) (x : V) (v : Value) (Q : VK), Inv X pins σ H s -> RelV x v -> r x H Q ->
  wpAny (model X.prog X.w) X.A (f v) (EP X pins σ Q) X.xe s
def di0 (X : Cx) (f : Value) (r : List V -> Hp -> VK -> Prop) : Prop :=
 ∀ (pins : List (Addr × Obj)) (s : Shared) (σ : St) (H : Hp) (xs : List V) (us : List Value) (Q : VK), Inv X pins σ H s -> Vals xs us -> r xs H Q ->
  wpAny (model X.prog X.w) X.A (call f us) (EP X pins σ Q) X.xe s
def tOp (r : R2) (ta tb : TE) : TE := fun σ H Q => ta σ H fun x H1 => tb σ H1 fun y H2 => r x y H2 Q
def tUn (r : V -> Hp -> VK -> Prop) (ta : TE) : TE := fun σ H Q => ta σ H fun x H1 => r x H1 Q
def rI (C : Int -> Int -> Prop) (g : Int -> Int -> V) : R2 := fun x y H Q => ∃ i j, x = .int i /\ y = .int j /\ C i j /\ Q (g i j) H
def rI0 (g : Int -> Int -> V) : R2 := fun x y H Q => ∃ i j, x = .int i /\ y = .int j /\ Q (g i j) H
def rU (g : Int -> V) : V -> Hp -> VK -> Prop := fun x H Q => ∃ i, x = .int i /\ Q (g i) H
section
variable {X : Cx} {a b c : Expr} {ta tb tc : TE} {pos : Pos}
theorem binT (ha : PE X a ta) (hb : PE X b tb) {pins : List (Addr × Obj)} {s : Shared} {σ : St} {H : Hp} {R : V -> V -> Hp -> Prop} (I : Inv X pins σ H s)
  (h : ta σ H fun x H1 => tb σ H1 fun y H2 => R x y H2) {Q : Value -> Shared -> Prop} {f : Value -> Value -> Sem Value}
  (hf : ∀ v u s2 x y H2, Inv X pins σ H2 s2 -> RelV x v -> RelV y u -> R x y H2 -> wpAny (model X.prog X.w) X.A (f v u) Q X.xe s2) :
  wpAny (model X.prog X.w) X.A (eval a X.env) (fun v s₁ => wpAny (model X.prog X.w) X.A (eval b X.env) (fun u s₂ => wpAny (model X.prog X.w) X.A (f v u) Q X.xe s₂) X.xe s₁) X.xe s := by
 refine thn (ha pins s σ H _ I h) fun v s1 ⟨x, H1, I1, r1, q1⟩ => ?_
 refine thn (hb pins s1 σ H1 _ I1 q1) fun u s2 ⟨y, H2, I2, r2, q2⟩ => ?_
 exact hf v u s2 x y H2 I2 r1 r2 q2
theorem nX0 {op : Operator} {r : R2} (ho : OpR X (binaryOp op) r) (ha : PE X a ta) (hb : PE X b tb) : PE X (.BinOp a op b pos) (tOp r ta tb) := by
 intro pins s σ H Q I h
 exact wpAny_BinOp (binT ha hb I h fun v u s2 x y H2 I2 rx ry q => ho pins s2 σ H2 x y v u Q I2 rx ry q)
theorem pe_un {op : UnaryOp} {r : V -> Hp -> VK -> Prop} (ho : UnR X (unaryOp op) r) (ha : PE X a ta) : PE X (.UnaryOp op a pos) (tUn r ta) := by
 intro pins s σ H Q I h
 exact UnaryOp_ (thn (ha pins s σ H _ I h) fun v s1 ⟨x, H1, I1, r1, q1⟩ => ho pins s1 σ H1 x v Q I1 r1 q1)
theorem opI {f : Value -> Value -> Sem Value} {C : Int -> Int -> Prop} {g : Int -> Int -> Int}
  (rule : ∀ (i j : Int) (t u : Tok) (s : Shared) (Q : Value -> Shared -> Prop) (E : Value -> Shared -> Prop), C i j -> Q (.int (g i j) s.toks) { s with toks := s.toks + 1 } -> wpAny (model X.prog X.w) X.A (f (.int i t) (.int j u)) Q E s) :
  OpR X f (rI C fun i j => .int (g i j)) := by
 intro pins s σ H x y v u Q I rx ry h
 obtain ⟨i, j, rfl, rfl, hc, q⟩ := h
 obtain ⟨t, rfl⟩ := rx
 obtain ⟨t', rfl⟩ := ry
 exact rule i j t t' s _ _ hc ⟨.int (g i j), H, I.tok _, ⟨_, rfl⟩, q⟩
theorem opI0 {f : Value -> Value -> Sem Value} {g : Int -> Int -> Int}
  (rule : ∀ (i j : Int) (t u : Tok) (s : Shared) (Q : Value -> Shared -> Prop) (E : Value -> Shared -> Prop), Q (.int (g i j) s.toks) { s with toks := s.toks + 1 } -> wpAny (model X.prog X.w) X.A (f (.int i t) (.int j u)) Q E s) :
  OpR X f (rI0 fun i j => .int (g i j)) := by
 intro pins s σ H x y v u Q I rx ry h
 obtain ⟨i, j, rfl, rfl, q⟩ := h
 obtain ⟨t, rfl⟩ := rx
 obtain ⟨t', rfl⟩ := ry
 exact rule i j t t' s _ _ ⟨.int (g i j), H, I.tok _, ⟨_, rfl⟩, q⟩
theorem opB0 {f : Value -> Value -> Sem Value} {g : Int -> Int -> Bool}
  (rule : ∀ (i j : Int) (t u : Tok) (s : Shared) (Q : Value -> Shared -> Prop) (E : Value -> Shared -> Prop), Q (.bool (g i j)) s -> wpAny (model X.prog X.w) X.A (f (.int i t) (.int j u)) Q E s) :
  OpR X f (rI0 fun i j => .bl (g i j)) := by
 intro pins s σ H x y v u Q I rx ry h
 obtain ⟨i, j, rfl, rfl, q⟩ := h
 obtain ⟨t, rfl⟩ := rx
 obtain ⟨t', rfl⟩ := ry
 exact rule i j t t' s _ _ ⟨.bl (g i j), H, I, rfl, q⟩
def CDiv (i j : Int) : Prop := 0 < j /\ j < 1073741824
def CMul (i j : Int) : Prop := (-(2 ^ 64) < i /\ i < 2 ^ 64) \/ (-(2 ^ 64) < j /\ j < 2 ^ 64)
theorem CMul.ok {i j : Int} (h : CMul i j) : IntMulOk i j := by
 rcases h with ⟨h1, h2⟩ | ⟨h1, h2⟩
 ·exact .of_left (intBits_le_64 h1 h2)
 ·exact .of_right (intBits_le_64 h1 h2)
theorem ol0 : OpR X (binaryOp .Add) (rI0 fun i j => .int (i + j)) := opI0 fun _ _ _ _ _ _ _ q => add_int q
theorem pb0 : OpR X (binaryOp .Sub) (rI0 fun i j => .int (i - j)) := opI0 fun _ _ _ _ _ _ _ q => sub_int q
theorem pi0 : OpR X (binaryOp .Mult) (rI CMul fun i j => .int (i * j)) := opI fun _ _ _ _ _ _ _ hc q => mul_int q hc.ok
theorem mO0 : OpR X (binaryOp .FloorDiv) (rI CDiv fun i j => .int (i / j)) := opI fun i j _ _ _ _ _ hc q => by
 have h1 : (0 : Int) < j := hc.1
 have h2 : j < 1073741824 := hc.2
 exact floordiv_int (by omega) (by rw [Int.fdiv_eq_ediv_of_nonneg i (by omega)]; exact q) (.inl (PyProof.noPylong_small (by omega)))
theorem pk0 : OpR X (binaryOp .Mod) (rI (fun _ j => 0 < j) fun i j => .int (i % j)) := opI fun i j _ _ _ _ _ hc q => by
 have h1 : (0 : Int) < j := hc
 exact mod_int' (by omega) (by rw [Int.fmod_eq_emod_of_nonneg i (by omega)]; exact q)
theorem unI {f : Value -> Sem Value} {g : Int -> Int}
  (rule : ∀ (i : Int) (t : Tok) (s : Shared) (Q : Value -> Shared -> Prop) (E : Value -> Shared -> Prop), Q (.int (g i) s.toks) { s with toks := s.toks + 1 } -> wpAny (model X.prog X.w) X.A (f (.int i t)) Q E s) :
  UnR X f (rU fun i => .int (g i)) := by
 intro pins s σ H x v Q I rx h
 obtain ⟨i, rfl, q⟩ := h
 obtain ⟨t, rfl⟩ := rx
 exact rule i t s _ _ ⟨.int (g i), H, I.tok _, ⟨_, rfl⟩, q⟩
theorem ox0 : UnR X (unaryOp .USub) (rU fun i => .int (-i)) := unI fun _ _ _ _ _ q => neg_int q
end
def scal : V -> V -> Bool
 | .non, .non => true | .non, .int _ => true | .int _, .non => true | .non, .bl _ => true | .bl _, .non => true | .non, .str _ => true | .str _, .non => true
 | .int _, .int _ => true | .bl _, .bl _ => true | .str _, .str _ => true | .byt _, .byt _ => true
 | .int _, .str _ => true | .str _, .int _ => true | .bl _, .str _ => true | .str _, .bl _ => true
 | _, _ => false
def rEq : R2 := fun x y H Q => scal x y = true /\ Q (.bl (decide (x = y))) H
def rNe : R2 := fun x y H Q => scal x y = true /\ Q (.bl (!decide (x = y))) H
theorem jU0 {i j : Int} : decide (V.int i = V.int j) = (i == j) := by
 rw [Bool.eq_iff_iff]
 simp
theorem mg0 {i j : Bool} : decide (V.bl i = V.bl j) = (i == j) := by
 rw [Bool.eq_iff_iff]
 simp
theorem kz0 {i j : Str} : decide (V.str i = V.str j) = (i == j) := by
 rw [Bool.eq_iff_iff]
 simp
theorem ix0 {i j : Array UInt8} : decide (V.byt i = V.byt j) = (i.toList == j.toList) := by
 rw [Bool.eq_iff_iff]
 cases i
 cases j
 simp
section
variable {X : Cx} {a b c : Expr} {ta tb tc : TE} {pos : Pos}
theorem aX0 {pins : List (Addr × Obj)} {σ : St} {H : Hp} {s : Shared} {Q : VK} {k k' : Bool} (I : Inv X pins σ H s) (q : Q (.bl k) H) (e : k = k') : EP X pins σ Q (.bool k') s := by
 subst e
 exact ⟨.bl k, H, I, rfl, q⟩
theorem op_eq : OpR X (compareOp .Eq) rEq := by
 intro pins s σ H x y v u Q I rx ry h
 obtain ⟨hs, q⟩ := h
 cases x with
 | non =>
  cases rx
  cases y with
  | non => cases ry; exact PySem.EqNone.eq_none_none (aX0 I q (by simp))
  | bl j => cases ry; exact PySem.EqNone.eq_none_bool (aX0 I q (by simp))
  | int j => obtain ⟨t', rfl⟩ := ry; exact PySem.EqNone.eq_none_int (aX0 I q (by simp))
  | str j => obtain ⟨t', rfl⟩ := ry; exact PySem.EqNone.eq_none_str (aX0 I q (by simp))
  | _ => exact absurd (show false = true from hs) Bool.false_ne_true
 | bl i =>
  cases rx
  cases y with
  | non => cases ry; exact PySem.EqNone.eq_bool_none (aX0 I q (by simp))
  | bl j => cases ry; exact eq_bool (aX0 I q mg0)
  | str j => obtain ⟨t', rfl⟩ := ry; exact PySem.EqMixed.eq_bool_str (aX0 I q (by simp))
  | _ => exact absurd (show false = true from hs) Bool.false_ne_true
 | int i =>
  obtain ⟨t, rfl⟩ := rx
  cases y with
  | non => cases ry; exact PySem.EqNone.eq_int_none (aX0 I q (by simp))
  | int j => obtain ⟨t', rfl⟩ := ry; exact eq_int (aX0 I q jU0)
  | str j => obtain ⟨t', rfl⟩ := ry; exact PySem.EqMixed.eq_int_str (aX0 I q (by simp))
  | _ => exact absurd (show false = true from hs) Bool.false_ne_true
 | str i =>
  obtain ⟨t, rfl⟩ := rx
  cases y with
  | non => cases ry; exact PySem.EqNone.eq_str_none (aX0 I q (by simp))
  | bl j => cases ry; exact PySem.EqMixed.eq_str_bool (aX0 I q (by simp))
  | int j => obtain ⟨t', rfl⟩ := ry; exact PySem.EqMixed.eq_str_int (aX0 I q (by simp))
  | str j => obtain ⟨t', rfl⟩ := ry; exact eq_str (aX0 I q kz0)
  | _ => exact absurd (show false = true from hs) Bool.false_ne_true
 | byt i =>
  obtain ⟨t, rfl⟩ := rx
  cases y with
  | byt j => obtain ⟨t', rfl⟩ := ry; exact PySem.W.eq_bytes (aX0 I q ix0)
  | _ => exact absurd (show false = true from hs) Bool.false_ne_true
 | _ => cases y <;> exact absurd (show false = true from hs) Bool.false_ne_true
theorem op_ne : OpR X (compareOp .NotEq) rNe := by
 intro pins s σ H x y v u Q I rx ry h
 obtain ⟨hs, q⟩ := h
 cases x with
 | non =>
  cases rx
  cases y with
  | non => cases ry; exact PySem.EqNone.ne_none_none (aX0 I q (by simp))
  | bl j => cases ry; exact PySem.EqNone.ne_none_bool (aX0 I q (by simp))
  | int j => obtain ⟨t', rfl⟩ := ry; exact PySem.EqNone.ne_none_int (aX0 I q (by simp))
  | str j => obtain ⟨t', rfl⟩ := ry; exact PySem.EqNone.ne_none_str (aX0 I q (by simp))
  | _ => exact absurd (show false = true from hs) Bool.false_ne_true
 | bl i =>
  cases rx
  cases y with
  | non => cases ry; exact PySem.EqNone.ne_bool_none (aX0 I q (by simp))
  | bl j => cases ry; exact ne_bool (aX0 I q (congrArg not mg0))
  | str j => obtain ⟨t', rfl⟩ := ry; exact PySem.EqMixed.ne_bool_str (aX0 I q (by simp))
  | _ => exact absurd (show false = true from hs) Bool.false_ne_true
 | int i =>
  obtain ⟨t, rfl⟩ := rx
  cases y with
  | non => cases ry; exact PySem.EqNone.ne_int_none (aX0 I q (by simp))
  | int j => obtain ⟨t', rfl⟩ := ry; exact ne_int (aX0 I q (congrArg not jU0))
  | str j => obtain ⟨t', rfl⟩ := ry; exact PySem.EqMixed.ne_int_str (aX0 I q (by simp))
  | _ => exact absurd (show false = true from hs) Bool.false_ne_true
 | str i =>
  obtain ⟨t, rfl⟩ := rx
  cases y with
  | non => cases ry; exact PySem.EqNone.ne_str_none (aX0 I q (by simp))
  | bl j => cases ry; exact PySem.EqMixed.ne_str_bool (aX0 I q (by simp))
  | int j => obtain ⟨t', rfl⟩ := ry; exact PySem.EqMixed.ne_str_int (aX0 I q (by simp))
  | str j => obtain ⟨t', rfl⟩ := ry; exact ne_str (aX0 I q (congrArg not kz0))
  | _ => exact absurd (show false = true from hs) Bool.false_ne_true
 | byt i =>
  obtain ⟨t, rfl⟩ := rx
  cases y with
  | byt j => obtain ⟨t', rfl⟩ := ry; exact PySem.W.ne_bytes (aX0 I q (congrArg not ix0))
  | _ => exact absurd (show false = true from hs) Bool.false_ne_true
 | _ => cases y <;> exact absurd (show false = true from hs) Bool.false_ne_true
theorem op_lt : OpR X (compareOp .Lt) (rI0 fun i j => .bl (decide (i < j))) := opB0 fun _ _ _ _ _ _ _ q => lt_int q
theorem jt0 : OpR X (compareOp .LtE) (rI0 fun i j => .bl (decide (i <= j))) := opB0 fun _ _ _ _ _ _ _ q => le_int q
theorem op_gt : OpR X (compareOp .Gt) (rI0 fun i j => .bl (decide (j < i))) := opB0 fun _ _ _ _ _ _ _ q => gt_int q
theorem OpR.or {f : Value -> Value -> Sem Value} {r r' : R2} (h : OpR X f r) (h' : OpR X f r') : OpR X f (fun x y H Q => r x y H Q \/ r' x y H Q) := by
 intro pins s σ H x y v u Q I rx ry q
 rcases q with q | q
 ·exact h pins s σ H x y v u Q I rx ry q
 ·exact h' pins s σ H x y v u Q I rx ry q
theorem ew0 (b : Expr) {op : CmpOp} (h : op ≠ .In := by decide) (h2 : op ≠ .NotIn := by decide) : behindInMarks op b = false := by
 have e1 : (op == CmpOp.In) = false := by cases op <;> first | rfl | exact absurd rfl h
 have e2 : (op == CmpOp.NotIn) = false := by cases op <;> first | rfl | exact absurd rfl h2
 cases b <;> simp [behindInMarks, e1, e2]
theorem ns0 {op : CmpOp} {r : R2} (ho : OpR X (compareOp op) r) (ha : PE X a ta) (hb : PE X b tb) (hm : behindInMarks op b = false) : PE X (.Compare a [op] [b] pos) (tOp r ta tb) := by
 intro pins s σ H Q I h
 exact wpAny_Compare1 (binT ha hb I h fun v u s2 x y H2 I2 rx ry q => ho pins s2 σ H2 x y v u Q I2 rx ry q) hm
def nG0 (t : TE) : TT := fun σ H Q => t σ H fun x H' => ∃ k, x = .bl k /\ Q k H'
theorem nV0 {op : CmpOp} {r : R2} (ho : OpR X (compareOp op) r) (ha : PE X a ta) (hb : PE X b tb) (hm : behindInMarks op b = false) : PT X (.Compare a [op] [b] pos) (nG0 (tOp r ta tb)) := by
 intro pins s σ H Q I h
 refine wpAny_isTrue_Compare1 (thn (ha pins s σ H _ I h) fun v s1 ⟨x, H1, I1, r1, q1⟩ => thn (hb pins s1 σ H1 _ I1 q1) fun u s2 ⟨y, H2, I2, r2, q2⟩ =>
  thn (ho pins s2 σ H2 x y v u _ I2 r1 r2 q2) fun c s3 ⟨z, H3, I3, r3, k, e, q3⟩ => ?_) hm
 subst e
 cases r3
 exact wpAny_truthy_bool ⟨H3, I3, q3⟩
def kK0 (r r' : R2) (ta tb tc : TE) : TE := fun σ H Q => ta σ H fun x H1 => tb σ H1 fun y H2 => r x y H2 fun z H3 => ∃ k, z = .bl k /\
 (if k = true then tc σ H3 fun w' H4 => r' y w' H4 Q else Q (.bl false) H3)
theorem lr0 {op op' : CmpOp} {r r' : R2} (ho : OpR X (compareOp op) r) (ho' : OpR X (compareOp op') r') (ha : PE X a ta) (hb : PE X b tb) (hc : PE X c tc)
  (hm : lastMarks [op, op'] [b, c] = false := by with_unfolding_all rfl) : PE X (.Compare a [op, op'] [b, c] pos) (kK0 r r' ta tb tc) := by
 intro pins s σ H Q I h
 refine Compare_chain (thn (ha pins s σ H _ I h) fun v s1 ⟨x, H1, I1, r1, q1⟩ => chain_link (thn (hb pins s1 σ H1 _ I1 q1) fun u s2 ⟨y, H2, I2, r2, q2⟩ =>
  thn (ho pins s2 σ H2 x y v u _ I2 r1 r2 q2) fun d s3 ⟨z, H3, I3, r3, k, e, q3⟩ => ?_)) hm
 subst e
 cases r3
 refine wpAny_truthy_bool ?_
 cases k with
 | false => exact ite_ff ⟨.bl false, H3, I3, rfl, q3⟩
 | true => exact ite_tt (chain_last (thn (hc pins s3 σ H3 _ I3 q3) fun w' s4 ⟨z', H4, I4, r4, q4⟩ => ho' pins s4 σ H4 y z' u w' Q I4 r2 r4 q4))
theorem la0 {op op' : CmpOp} {r r' : R2} (ho : OpR X (compareOp op) r) (ho' : OpR X (compareOp op') r') (ha : PE X a ta) (hb : PE X b tb) (hc : PE X c tc)
  (hm : lastMarks [op, op'] [b, c] = false := by with_unfolding_all rfl) : PT X (.Compare a [op, op'] [b, c] pos) (nG0 (kK0 r r' ta tb tc)) := by
 intro pins s σ H Q I h
 refine isTrue_chain (thn (ha pins s σ H _ I h) fun v s1 ⟨x, H1, I1, r1, q1⟩ => test_link (thn (hb pins s1 σ H1 _ I1 q1) fun u s2 ⟨y, H2, I2, r2, q2⟩ =>
  thn (ho pins s2 σ H2 x y v u _ I2 r1 r2 q2) fun d s3 ⟨z, H3, I3, r3, k, e, q3⟩ => ?_)) hm
 subst e
 cases r3
 refine wpAny_truthy_bool ?_
 cases k with
 | false =>
  obtain ⟨k', e', q'⟩ := q3
  cases e'
  exact ite_ff ⟨H3, I3, q'⟩
 | true =>
  refine ite_tt (test_last (thn (hc pins s3 σ H3 _ I3 q3) fun w' s4 ⟨z', H4, I4, r4, q4⟩ => thn (ho' pins s4 σ H4 y z' u w' _ I4 r2 r4 q4) fun d' s5 ⟨z2, H5, I5, r5, k2, e2, q5⟩ => ?_))
  subst e2
  cases r5
  exact wpAny_truthy_bool ⟨H5, I5, q5⟩
theorem gC0 : (sizeLine : Nat) < 2 ^ 63 := by rw [sizeLine_eq]; decide
theorem hO0 {x : V} {us : List Value} (r : Vals [x] us) : ∃ u, us = [u] /\ RelV x u := by
 cases r with
 | cons r1 r2 => cases r2; exact ⟨_, rfl, r1⟩
theorem lf0 {x y : V} {us : List Value} (r : Vals [x, y] us) : ∃ u w', us = [u, w'] /\ RelV x u /\ RelV y w' := by
 cases r with
 | cons r1 r2 =>
  cases r2 with
  | cons r3 r4 => cases r4; exact ⟨_, _, rfl, r1, r3⟩
theorem kO0 (hc : X.calm = true) : di0 X (.builtin "max") (fun xs H Q => ∃ i j, xs = [.int i, .int j] /\ Q (.int (if j > i then j else i)) H) := by
 intro pins s σ H xs us Q I r h
 obtain ⟨i, j, rfl, q⟩ := h
 obtain ⟨u, w', rfl, ⟨t, rfl⟩, ⟨t', rfl⟩⟩ := lf0 r
 refine max_two_ints (I.ok.hd hc) fun h' tk k => ⟨_, H, I.kept k, ?_, q⟩
 by_cases hj : j > i
 ·rw [if_pos hj, if_pos hj]; exact ⟨_, rfl⟩
 ·rw [if_neg hj, if_neg hj]; exact ⟨_, rfl⟩
theorem kH0 (hc : X.calm = true) : di0 X (.builtin "min") (fun xs H Q => ∃ i j, xs = [.int i, .int j] /\ Q (.int (if j < i then j else i)) H) := by
 intro pins s σ H xs us Q I r h
 obtain ⟨i, j, rfl, q⟩ := h
 obtain ⟨u, w', rfl, ⟨t, rfl⟩, ⟨t', rfl⟩⟩ := lf0 r
 refine min_two_ints (I.ok.hd hc) fun h' tk k => ⟨_, H, I.kept k, ?_, q⟩
 by_cases hj : j < i
 ·rw [if_pos hj, if_pos hj]; exact ⟨_, rfl⟩
 ·rw [if_neg hj, if_neg hj]; exact ⟨_, rfl⟩
def LenV (K : PySem.W.Frag) (x : V) (H : Hp) (n : Nat) : Prop :=
 match x with
 | .str y => y.length <= sizeLine /\ n = y.length
 | .byt y => y.size <= sizeLine /\ n = y.size
 | .ref p => (∃ xs, SqL K H p xs /\ n = xs.length) \/ ∃ xs, SqT K H p xs /\ n = xs.length
 | _ => False
theorem lo0 : di0 X (.builtin "len") (fun xs H Q => ∃ x n, xs = [x] /\ LenV X.K x H n /\ Q (.int n) H) := by
 intro pins s σ H xs us Q I r h
 obtain ⟨x, n, rfl, e, q⟩ := h
 obtain ⟨u, rfl, rx⟩ := hO0 r
 have hl := gC0
 have hs : sizeLine = 16777216 := sizeLine_eq
 cases x with
 | str y =>
  obtain ⟨t, rfl⟩ := rx
  obtain ⟨hy, e'⟩ : y.length <= sizeLine /\ n = y.length := e
  subst e'
  exact len_str (by omega) ⟨.int _, H, I.tok _, ⟨_, rfl⟩, q⟩
 | byt y =>
  obtain ⟨t, rfl⟩ := rx
  obtain ⟨hy, e'⟩ : y.size <= sizeLine /\ n = y.size := e
  subst e'
  exact PySem.W.len_bytes (by omega) ⟨.int _, H, I.tok _, ⟨_, rfl⟩, q⟩
 | ref p =>
  cases rx
  have e' : (∃ xs, SqL X.K H p xs /\ n = xs.length) \/ ∃ xs, SqT X.K H p xs /\ n = xs.length := e
  rcases e' with ⟨xs, hx, e'⟩ | ⟨xs, hx, e'⟩
  ·subst e'
   obtain ⟨its, r', pl, hz⟩ := I.list hx
   have hlen := r'.length
   exact Calls.call_len_list pl.isList (by simp only [List.size_toArray]; omega) ⟨.int xs.length, H, I.tok _, ⟨_, by simp only [List.size_toArray]; rw [hlen]⟩, q⟩
  ·subst e'
   obtain ⟨its, r', pl, hz⟩ := I.tuple hx
   have hlen := r'.length
   exact len_tuple pl (by simp only [List.size_toArray]; omega) ⟨.int xs.length, H, I.tok _, ⟨_, by simp only [List.size_toArray]; rw [hlen]⟩, q⟩
 | _ => exact (show False from e).elim
end
end L2
namespace L2
open PySem PySem.Spec PyProof.Rows
structure ObjM (h : Heap) (x dx C : Addr) (mA : Str -> Option Value) : Prop where
 obj : h.get? x = some (PySem.W.instObj C dx)
 ns : h.Ns1 dx mA
 ne : dx ≠ x
theorem jE0 {h : Heap} {dx : Addr} {mA : Str -> Option Value} (n : h.Ns1 dx mA) : ∃ od, h.get? dx = some od /\ ∀ name, PySem.W.lookIn name od = some (mA name) := by
 obtain ⟨o, es, ep, ho, hd, hk, _, hm⟩ := n
 refine ⟨o, ho, fun name => ?_⟩
 have e := hm name
 unfold nsFind findBy at e
 rw [<- Array.find?_toList] at e
 unfold PySem.W.lookIn
 rw [hd]
 dsimp only
 split
 ·rename_i y q
  rw [q] at e
  exact congrArg some e
 ·rename_i q
  rw [q] at e
  have a : es.toList.any (·.refKey) = false := by
   rw [List.any_eq_false]
   intro y hy
   obtain ⟨z, t, hkey⟩ := hk y (Array.mem_toList_iff.mp hy)
   simp [DictEntry.refKey, hkey]
  have a' : ¬ es.toList.any (·.refKey) = true := by rw [a]; exact Bool.false_ne_true
  rw [if_neg a']
  exact congrArg some e
theorem ObjM.look {h : Heap} {x dx C : Addr} {mA : Str -> Option Value} (I : ObjM h x dx C mA) : ∃ od, PySem.W.InstAt h x (PySem.W.instObj C dx) C (some od) /\ ∀ name, PySem.W.lookIn name od = some (mA name) :=
 let ⟨od, ho, hl⟩ := jE0 I.ns
 ⟨od, ⟨I.obj, rfl, rfl, ho⟩, hl⟩
section
variable {prog : Program} {w : World} {A : Around} {E : Value -> Shared -> Prop} {s : Shared} {K : PySem.W.Frag} {x dx C f : Addr} {mA : Str -> Option Value} {name : Str} {v : Value}
theorem nr0 {expr : Bool} {Q : Value -> Shared -> Prop} (X : K.In s.heap) (I : ObjM s.heap x dx C mA) (hg : PySem.W.plainGet K C name = true) (hh : PySem.W.hasDictIn K C = true)
  (ha : PySem.W.findIn K (.ref C) name = some none) (hv : mA name = some v) (hv' : PySem.W.handedIn v = true) (h : Q v { s with toks := s.toks + 1 }) :
  wpAny (model prog w) A (getAttr (.ref x) name expr) Q E s := by
 obtain ⟨od, J, hl⟩ := I.look
 exact PySem.W.get_value X J (PySem.W.plainGet_of hg).1 (PySem.W.findObj_own hh ha rfl (by rw [hl, hv])) hv' h
theorem lH0 {pl : Sem Bool} {Q : Value × List Value -> Shared -> Prop} (X : K.In s.heap) (I : ObjM s.heap x dx C mA) (hg : PySem.W.plainGet K C name = true)
  (hf : PySem.W.findIn K (.ref C) name = some (some (.ref f))) (ht : PySem.W.isFn K (.ref f) = true) (hv : mA name = none) (h : Q (.ref f, [.ref x]) s) :
  wpAny (model prog w) A (getMethod (.ref x) name pl) Q E s := by
 obtain ⟨od, J, hl⟩ := I.look
 exact PySem.W.method_fn X J (PySem.W.plainGet_of hg).1 (PySem.W.plainGet_of hg).2 hf (beq_iff_eq.mp ht) (by show (PySem.W.lookIn name od).map (·.isSome) = some false; rw [hl, hv]; rfl) h
theorem nQ0 {ns : List Str} {Q : Unit -> Shared -> Prop} (X : K.In s.heap) (I : ObjM s.heap x dx C mA)
  (hs : PySem.W.findIn K (.ref C) "__setattr__" = some (some (.builtin "object.__setattr__"))) (hp : PySem.W.plainOver K C = true) (ht : PySem.W.takerIn K C name = some none) (hh : PySem.W.hasDictIn K C = true)
  (hw : PySem.Within mA ns) (hsz : ns.length <= sizeLine)
  (h : ∀ h', ObjM h' x dx C (fun y => if y = name then some v else mA y) -> Heap.SameBut dx s.heap h' -> Q () { s with heap := h', toks := s.toks + 2 }) :
  wpAny (model prog w) A (setAttr (.ref x) name v) Q E s := by
 obtain ⟨od, J, hl⟩ := I.look
 refine PySem.W.set_plain X J hs (PySem.W.osa_open (s := { s with toks := s.toks + 1 }) (r := none) X J hp ht fun b => ?_)
 obtain ⟨cd, hc, hd'⟩ := PySem.W.any_some hh
 have hx : s.heap.get? x = some ⟨.ref C, some dx, .plain, #[]⟩ := I.obj
 refine wpAny_bind (wpAny_pure (wpAny_bind (wpAny_bind (wpAny_loadPart hx (wpAny_bind (PySem.W.Looks.here (s := { s with toks := s.toks + 1 }) (PySem.W.looks_clsIn X hc) ?_))))))
 rw [hd']
 refine wpAny_pure (a := some dx) (wpAny_bind (wpAny_pure (wpAny_bind ?_)))
 refine wpAny_nsSet1 (s := { s with toks := s.toks + 1 }) I.ns fun h' hn2 hs2 => ?_
 obtain ⟨oD, esD, epD, hoD, hdD, hcD⟩ := hn2.count (PySem.Within.cons name v hw)
 refine wpAny_bind (wpAny_lookBehind hoD (by rw [hdD]; exact pastItsLine_dict (Nat.le_trans hcD (by rw [List.length_cons]; omega))) ?_)
 exact wpAny_pure (h _ ⟨(hs2.2 _ (Ne.symm I.ne)).trans I.obj, hn2, I.ne⟩ hs2)
theorem lK0 {R : Result -> Shared -> Prop} {vs : List Value} {kw : List (Str × Value)} (X : K.In s.heap) (hm : PySem.W.makesIn K C = true)
  (hi : PySem.W.findIn K (.ref C) "__init__" = some (some (.ref f))) (hf : PySem.W.typeIn K (.ref f) = some (.type "function"))
  (h : codeAny (model prog w) (A.under (.builtin "type.__call__" ⟨.ref C :: vs, kw⟩)) (.call (.ref f) ⟨.ref (s.heap.objs.size + 1) :: vs, kw⟩) (PySem.W.InitBack (s.heap.objs.size + 1) R)
   { s with heap := (s.heap.push PySem.W.emptyDict).push (PySem.W.instObj C s.heap.objs.size) }) :
  codeAny (model prog w) A (.call (.ref C) ⟨vs, kw⟩) R s := by
 obtain ⟨hh, g, d, t, os⟩ := s
 exact PySem.W.make_core (PySem.W.makes_of X hm) (PySem.W.looks_findIn X hi) (fun self => PySem.W.bind_fn X self hf) (.inl rfl) h
end
def putF (f : Str) (v : V) : List (Str × V) -> List (Str × V)
 | [] => [(f, v)]
 | (g, x) :: r => if g = f then (g, v) :: r else (g, x) :: putF f v r
theorem eh0 (f g : Str) (v : V) : ∀ fs : List (Str × V), (putF f v fs).lookup g = if g = f then some v else fs.lookup g
 | [] => by
  show List.lookup g [(f, v)] = _
  by_cases h : g = f
  ·have hb : (g == f) = true := beq_iff_eq.mpr h
   simp only [List.lookup, hb, if_pos h]
  ·have hb : (g == f) = false := beq_eq_false_iff_ne.mpr h
   simp only [List.lookup, hb, if_neg h]
 | (k, x) :: r => by
  have ih := eh0 f g v r
  rw [show putF f v ((k, x) :: r) = (if k = f then (k, v) :: r else (k, x) :: putF f v r) from rfl]
  by_cases hk : k = f
  ·rw [if_pos hk]
   by_cases h : g = k
   ·have hb : (g == k) = true := beq_iff_eq.mpr h
    simp only [List.lookup, hb, if_pos (h.trans hk)]
   ·have hb : (g == k) = false := beq_eq_false_iff_ne.mpr h
    simp only [List.lookup, hb, if_neg (fun e : g = f => h (e.trans hk.symm))]
  ·rw [if_neg hk]
   by_cases h : g = k
   ·have hb : (g == k) = true := beq_iff_eq.mpr h
    simp only [List.lookup, hb, if_neg (fun e : g = f => hk (h.symm.trans e))]
   ·have hb : (g == k) = false := beq_eq_false_iff_ne.mpr h
    simp only [List.lookup, hb]
    exact ih
theorem dG0 (f : Str) (v : V) : ∀ fs : List (Str × V), f ∈ (putF f v fs).map (·.1) /\ ∀ g, g ∈ fs.map (·.1) -> g ∈ (putF f v fs).map (·.1)
 | [] => ⟨by simp [putF], fun g h => by simp at h⟩
 | (k, x) :: r => by
  obtain ⟨i1, i2⟩ := dG0 f v r
  rw [show putF f v ((k, x) :: r) = (if k = f then (k, v) :: r else (k, x) :: putF f v r) from rfl]
  by_cases hk : k = f
  ·rw [if_pos hk]
   subst hk
   exact ⟨by simp, fun g h => by simpa using h⟩
  ·rw [if_neg hk]
   refine ⟨?_, fun g h => ?_⟩
   ·rw [List.map_cons]
    exact List.mem_cons_of_mem _ i1
   ·rw [List.map_cons] at h ⊢
    rcases List.mem_cons.mp h with e | e
    ·exact List.mem_cons.mpr (.inl e)
    ·exact List.mem_cons_of_mem _ (i2 g e)
theorem dR0 (f : Str) (v : V) : ∀ fs : List (Str × V), (putF f v fs).length <= fs.length + 1
 | [] => by simp [putF]
 | (k, x) :: r => by
  have ih := dR0 f v r
  rw [show putF f v ((k, x) :: r) = (if k = f then (k, v) :: r else (k, x) :: putF f v r) from rfl]
  by_cases hk : k = f
  ·rw [if_pos hk, List.length_cons, List.length_cons]; omega
  ·rw [if_neg hk, List.length_cons, List.length_cons]; omega
theorem RelO.some_of {v : V} {o : Option Value} (r : RelO (some v) o) : ∃ u, o = some u /\ RelV v u := by
 cases o with
 | none => exact (show False from r).elim
 | some u => exact ⟨u, rfl, r⟩
theorem RelO.none_of {o : Option Value} (r : RelO none o) : o = none := by
 cases o with
 | none => rfl
 | some u => exact (show False from r).elim
theorem iU0 {v : V} {u : Value} (r : RelV v u) : PySem.W.handedIn u = true := by
 cases v with
 | non => cases (show u = Value.none from r); rfl
 | bl b => cases (show u = Value.bool b from r); rfl
 | int i => obtain ⟨t, e⟩ := (show ∃ t, u = Value.int i t from r); cases e; rfl
 | str x => obtain ⟨t, e⟩ := (show ∃ t, u = Value.str x t from r); cases e; rfl
 | byt b => obtain ⟨t, e⟩ := (show ∃ t, u = Value.bytes b t from r); cases e; rfl
 | flt b => obtain ⟨t, e⟩ := (show ∃ t, u = Value.float b t from r); cases e; rfl
 | ref a => cases (show u = Value.ref a from r); rfl
 | ty n => cases (show u = Value.type n from r); rfl
section
variable {P : Program} {w : World} {H H' : Hp} {h h' : Heap} {a C dx : Addr} {fs fs' : List (Str × V)}
theorem eW0 (hok : HOk P w H h) (e : H a = some (.ins C dx fs)) : ∃ mA, ObjM h a dx C mA /\ (∀ f, RelO (fs.lookup f) (mA f)) /\ PySem.Within mA (fs.map (·.1)) /\ fs.length <= 1000 /\ H dx = some (.own a) := by
 obtain ⟨d, z, ne, ob, mA, n, r, q⟩ := (show ObjOk P w H h a (.ins C dx fs) from hok a _ e)
 exact ⟨mA, ⟨ob, n, ne⟩, r, q, z, d⟩
end
structure Cls (K : PySem.W.Frag) (C : Addr) : Prop where
 pg : PySem.W.plainGet K C Str.empty = true
 hd : PySem.W.hasDictIn K C = true
 po : PySem.W.plainOver K C = true
 sa : PySem.W.findIn K (.ref C) "__setattr__" = some (some (.builtin "object.__setattr__"))
theorem Cls.get {K : PySem.W.Frag} {C : Addr} (c : Cls K C) (f : Str) : PySem.W.plainGet K C f = true := c.pg
def NoAttr (K : PySem.W.Frag) (C : Addr) (f : Str) : Prop := PySem.W.findIn K (.ref C) f = some none
theorem NoAttr.taker {K : PySem.W.Frag} {C : Addr} {f : Str} (n : NoAttr K C f) : PySem.W.takerIn K C f = some none := by
 unfold PySem.W.takerIn
 rw [show PySem.W.findIn K (.ref C) f = some none from n]
 rfl
structure Meth (K : PySem.W.Frag) (C : Addr) (m : Str) (f : Addr) : Prop where
 at_ : PySem.W.findIn K (.ref C) m = some (some (.ref f))
 fn : PySem.W.isFn K (.ref f) = true
 kp : PySem.W.keepIn K (.ref f) = true
section
variable {X : Cx} {pins : List (Addr × Obj)} {σ : St} {H : Hp} {s : Shared} {a C dx : Addr} {fs : List (Str × V)} {f : Str} {v : V} {A : Around} {E : Value -> Shared -> Prop}
theorem id0 {b : Bool} {Q : Value -> Shared -> Prop} (I : Inv X pins σ H s) (e : H a = some (.ins C dx fs)) (c : Cls X.K C) (n : NoAttr X.K C f) (l : fs.lookup f = some v)
  (h : ∀ u s', Inv X pins σ H s' -> RelV v u -> Q u s') : wpAny (model X.prog X.w) A (getAttr (.ref a) f b) Q E s := by
 obtain ⟨mA, O, r, _, _, _⟩ := eW0 I.hok e
 obtain ⟨u, hu, ru⟩ := RelO.some_of (v := v) (o := mA f) (by rw [<- l]; exact r f)
 exact nr0 I.kIn O (c.get f) c.hd n hu (iU0 ru) (h u _ (I.tok _) ru)
theorem es0 {m : Str} {g : Addr} {pl : Sem Bool} {Q : Value × List Value -> Shared -> Prop} (I : Inv X pins σ H s) (e : H a = some (.ins C dx fs)) (c : Cls X.K C) (k : Meth X.K C m g) (l : fs.lookup m = none)
  (h : Q (.ref g, [.ref a]) s) : wpAny (model X.prog X.w) A (getMethod (.ref a) m pl) Q E s := by
 obtain ⟨mA, O, r, _, _, _⟩ := eW0 I.hok e
 have hn : mA m = none := RelO.none_of (by rw [<- l]; exact r m)
 exact lH0 I.kIn O (c.get m) k.at_ k.fn hn h
theorem if0 {y : V} {u : Value} {Q : Unit -> Shared -> Prop} (I : Inv X pins σ H s) (e : H a = some (.ins C dx fs)) (c : Cls X.K C) (n : NoAttr X.K C f) (hl : fs.length < 1000) (ry : RelV y u)
  (h : ∀ s', Inv X pins σ (upd H a (.ins C dx (putF f y fs))) s' -> Q () s') : wpAny (model X.prog X.w) A (setAttr (.ref a) f u) Q E s := by
 obtain ⟨mA, O, r, wi, _, ho⟩ := eW0 I.hok e
 have hz : (fs.map (·.1)).length <= sizeLine := by rw [List.length_map, sizeLine_eq]; omega
 refine nQ0 I.kIn O c.sa c.po n.taker c.hd wi hz fun h' O' sb => h _ ?_
 have hd : ∃ o, h'.get? dx = some o := let ⟨o, _, _, e', _⟩ := O'.ns; ⟨o, e'⟩
 refine I.write (x := a) (e := dx) (by rw [e]; exact True.intro) (.inr ho) (fun b q hb z => (sb.2 b hb).trans z) hd ?_
 refine ⟨by rw [an0 O.ne]; exact ho, ?_, O.ne, O'.obj, _, O'.ns, fun g => ?_, fun g hg => ?_⟩
 ·have := dR0 f y fs; omega
 ·show RelO ((putF f y fs).lookup g) (if g = f then some u else mA g)
  rw [eh0]
  by_cases q : g = f
  ·rw [if_pos q, if_pos q]; exact ry
  ·rw [if_neg q, if_neg q]; exact r g
 ·by_cases q : g = f
  ·rw [q]; exact (dG0 f y fs).1
  ·refine (dG0 f y fs).2 g (wi g fun z => hg ?_)
   show (if g = f then some u else mA g) = none
   rw [if_neg q]; exact z
theorem Inv.made (I : Inv X pins σ H s) : Inv X pins σ (upd (upd H s.heap.objs.size (.own (s.heap.objs.size + 1))) (s.heap.objs.size + 1) (.ins C s.heap.objs.size []))
  { s with heap := (s.heap.push PySem.W.emptyDict).push (PySem.W.instObj C s.heap.objs.size) } := by
 have e1 : (s.heap.push PySem.W.emptyDict).get? s.heap.objs.size = some PySem.W.emptyDict := Heap.get?_push_size s.heap rfl
 have e2 : ((s.heap.push PySem.W.emptyDict).push (PySem.W.instObj C s.heap.objs.size)).get? (s.heap.objs.size + 1) = some (PySem.W.instObj C s.heap.objs.size) := by
  have := Heap.get?_push_size (s.heap.push PySem.W.emptyDict) (o := PySem.W.instObj C s.heap.objs.size) rfl
  rwa [Heap.size_push] at this
 have e3 : (s.heap.push PySem.W.emptyDict).Ns s.heap.objs.size (fun _ => none) := ⟨PySem.W.emptyDict, #[], _, e1, rfl, (fun e he => absurd he (by simp)), fun _ => rfl⟩
 have I1 := I.laid (a := s.heap.objs.size) (o := .own (s.heap.objs.size + 1)) (h' := s.heap.push PySem.W.emptyDict) (t' := s.toks) (fun b u q => Heap.get?_push_of_some _ q) (Nat.le_refl _) ⟨_, e1⟩
 refine I1.laid (a := s.heap.objs.size + 1) (o := .ins C s.heap.objs.size []) (t' := s.toks) (fun b u q => Heap.get?_push_of_some _ q) (Nat.le_of_eq (Heap.size_push _ _)) ?_
 have ne : s.heap.objs.size ≠ s.heap.objs.size + 1 := Nat.ne_of_lt (Nat.lt_succ_self _)
 refine ⟨by rw [an0 ne, aq0], Nat.zero_le _, ne, e2, fun _ => none, (Heap.Ns1.of_empty e3).at fun o q => Heap.get?_push_of_some _ q, fun _ => True.intro, fun y hy => absurd rfl hy⟩
theorem nm0 {prog : Program} {w : World} {env : Env} {e : Expr} {f : Str} {pos : Pos} {s : Shared} {Q : Value -> Shared -> Prop} (hb : attributeBase e f env (eval e env) = eval e env)
  (h : wpAny (model prog w) A (eval e env) (fun o s₁ => wpAny (model prog w) A (getAttr o f true) Q E s₁) E s) : wpAny (model prog w) A (eval (.Attribute e f pos) env) Q E s :=
 Attribute_any_ h (by rw [arm_eval_Attribute, hb])
end
def tFld (K : PySem.W.Frag) (ta : TE) (f : Str) : TE := fun σ H Q => ta σ H fun x H1 => ∃ a C dx fs v, x = .ref a /\ H1 a = some (.ins C dx fs) /\ Cls K C /\ NoAttr K C f /\ fs.lookup f = some v /\ Q v H1
def sFld (K : PySem.W.Frag) (ta tv : TE) (f : Str) : TS := fun D σ H => tv σ H fun y H1 => ta σ H1 fun x H2 => ∃ a C dx fs, x = .ref a /\ H2 a = some (.ins C dx fs) /\ Cls K C /\ NoAttr K C f /\ fs.length < 1000 /\
 D.nx σ (upd H2 a (.ins C dx (putF f y fs)))
section
variable {X : Cx} {o e value : Expr} {f : Str} {pos pos' tpos : Pos} {ta tv : TE}
theorem oW0 (he : PE X e ta) (hb : attributeBase e f X.env (eval e X.env) = eval e X.env) : PE X (.Attribute e f pos) (tFld X.K ta f) := by
 intro pins s σ H Q I h
 refine nm0 hb (thn (he pins s σ H _ I h) fun u s1 ⟨x, H1, I1, rx, a, C, dx, fs, v, ex, ea, c, n, l, q⟩ => ?_)
 subst ex
 obtain rfl : u = Value.ref a := rx
 exact id0 I1 ea c n l fun u' s2 I2 ru => ⟨v, H1, I2, ru, q⟩
theorem pa0 (ha : PE X o ta) (hv : PE X value tv) (hs : swapsWith value (some (.Attribute o f pos')) pos.line X.env = pure false) : PS X (.Assign [.Attribute o f pos'] value pos) (sFld X.K ta tv f) := by
 intro pins s σ H D I h
 refine plainObj_wpAny_Assign_Attribute (thn (hv pins s σ H _ I h) fun u s1 ⟨y, H1, I1, ry, q⟩ => thn (ha pins s1 σ H1 _ I1 q) fun ov s2 ⟨x, H2, I2, rx, a, C, dx, fs, ex, ea, c, n, l, q2⟩ => ?_) hs
 subst ex
 obtain rfl : ov = Value.ref a := rx
 exact if0 I2 ea c n l ry fun s3 I3 => ⟨σ, _, I3, q2⟩
end
section
variable {X : Cx} {pins : List (Addr × Obj)} {σ : St} {H : Hp} {s : Shared} {A : Around} {E : Value -> Shared -> Prop} {Q : Value -> Shared -> Prop} {c : Value} {b : Bool}
inductive TyOf (K : PySem.W.Frag) (H : Hp) : V -> Value -> Prop where
 | non : TyOf K H .non (.type "NoneType")
 | bl (x : Bool) : TyOf K H (.bl x) (.type "bool")
 | int (i : Int) : TyOf K H (.int i) (.type "int")
 | str (x : Str) : TyOf K H (.str x) (.type "str")
 | flt (x : UInt64) : TyOf K H (.flt x) (.type "float")
 | lst {a : Addr} {xs : List V} (e : H a = some (.lst xs)) : TyOf K H (.ref a) (.type "list")
 | frz {a : Addr} {o : Obj} {xs : List V} (e : H a = some (.frz o (.lst xs))) : TyOf K H (.ref a) (.type "list")
 | tup {a : Addr} {xs : List V} (e : H a = some (.tup xs)) : TyOf K H (.ref a) (.type "tuple")
 | dK {a : Addr} {kvs : List (Key × V)} (e : H a = some (.dK kvs)) : TyOf K H (.ref a) (.type "dict")
 | dT {a : Addr} {kvs : List (List Key × V)} (e : H a = some (.dT kvs)) : TyOf K H (.ref a) (.type "dict")
 | fD {a : Addr} {o : Obj} {kvs : List (Key × V)} (e : H a = some (.frz o (.dK kvs))) : TyOf K H (.ref a) (.type "dict")
 | ins {a C dx : Addr} {fs : List (Str × V)} (e : H a = some (.ins C dx fs)) (cl : Cls K C) (ha : PySem.W.findIn K (.ref C) "__class__" = some (some (.builtin "object.__class__")))
   (hn : PySem.W.specialIn K (.builtin "object.__class__") "__get__" = some (some (.builtin "getset_descriptor.__get__"))) (htk : PySem.W.takesIn K (.builtin "object.__class__") = some true)
   (hm : PySem.W.mroIn K C (.type "object") = some true) : TyOf K H (.ref a) (.ref C)
theorem jK0 {x : V} {u t : Value} (I : Inv X pins σ H s) (rx : RelV x u) (ty : TyOf X.K H x t) (e : PySem.W.kitOne X.K t c = some b) (h : ∀ tk, Q (.bool b) { s with toks := tk }) :
  wpAny (model X.prog X.w) A (call (.builtin "isinstance") [u, c]) Q E s := by
 cases ty with
 | non => cases (show u = Value.none from rx); exact PySem.W.kia_one PySem.W.kitx_none I.kIn True.intro e (fun z => nomatch z) h
 | bl y => cases (show u = Value.bool y from rx); exact PySem.W.kia_one PySem.W.kitx_bool I.kIn True.intro e (fun z => nomatch z) h
 | int i => obtain ⟨t, q⟩ := (show ∃ t, u = Value.int i t from rx); cases q; exact PySem.W.kia_one PySem.W.kitx_int I.kIn True.intro e (fun z => nomatch z) h
 | str y => obtain ⟨t, q⟩ := (show ∃ t, u = Value.str y t from rx); cases q; exact PySem.W.kia_one PySem.W.kitx_str I.kIn True.intro e (fun z => nomatch z) h
 | flt y => obtain ⟨t, q⟩ := (show ∃ t, u = Value.float y t from rx); cases q; exact PySem.W.kia_one PySem.W.kitx_float I.kIn True.intro e (fun z => nomatch z) h
 | @lst a xs ea =>
  cases (show u = Value.ref a from rx)
  obtain ⟨_, _, n, _, h1⟩ := (show ObjOk X.prog X.w H s.heap a (.lst xs) from I.hok a _ ea)
  exact PySem.W.kia_one PySem.W.kitx_list I.kIn ⟨_, h1, rfl⟩ e (fun z => nomatch z) h
 | @frz a ob xs ea =>
  cases (show u = Value.ref a from rx)
  obtain ⟨_, _, _, n, _, h1⟩ := (show ObjOk X.prog X.w H s.heap a (.frz ob (.lst xs)) from I.hok a _ ea)
  exact PySem.W.kia_one PySem.W.kitx_list I.kIn ⟨_, h1, rfl⟩ e (fun z => nomatch z) h
 | @tup a xs ea =>
  cases (show u = Value.ref a from rx)
  obtain ⟨_, _, _, p, _⟩ := (show ObjOk X.prog X.w H s.heap a (.tup xs) from I.hok a _ ea)
  obtain ⟨o, h1, h2, _⟩ := p
  exact PySem.W.kia_one PySem.W.kitx_tuple I.kIn ⟨o, h1, h2⟩ e (fun z => nomatch z) h
 | @dK a kvs ea =>
  cases (show u = Value.ref a from rx)
  obtain ⟨_, _, vs, _, p⟩ := (show ObjOk X.prog X.w H s.heap a (.dK kvs) from I.hok a _ ea)
  obtain ⟨o, es, ep, h1, h2, _⟩ := p
  exact PySem.W.kia_one PySem.W.kitx_dict I.kIn ⟨o, h1, h2.1⟩ e (fun z => nomatch z) h
 | @fD a ob kvs ea =>
  cases (show u = Value.ref a from rx)
  obtain ⟨_, _, _, vs, _, p⟩ := (show ObjOk X.prog X.w H s.heap a (.frz ob (.dK kvs)) from I.hok a _ ea)
  obtain ⟨o, es, ep, h1, h2, _⟩ := p
  exact PySem.W.kia_one PySem.W.kitx_dict I.kIn ⟨o, h1, h2.1⟩ e (fun z => nomatch z) h
 | @dT a kvs ea =>
  cases (show u = Value.ref a from rx)
  obtain ⟨_, _, xs, _, o, es, ep, h1, h2, _⟩ := (show ObjOk X.prog X.w H s.heap a (.dT kvs) from I.hok a _ ea)
  exact PySem.W.kia_one PySem.W.kitx_dict I.kIn ⟨o, h1, h2.1⟩ e (fun z => nomatch z) h
 | @ins a C dx fs ea cl ha hn htk hm =>
  cases (show u = Value.ref a from rx)
  obtain ⟨mA, O, _⟩ := eW0 I.hok ea
  obtain ⟨od, J, _⟩ := O.look
  exact PySem.W.kia_one (PySem.W.kitx_own (cl.get _) cl.hd ha hn htk hm) I.kIn J e (fun z => nomatch z) h
end
end L2
namespace L2
open PySem PySem.Spec PyProof.Rows
structure Room (k : Nat) (A : Around) : Prop where
 hd : A.handled = none
 dp : A.depth + 3 * k + 5 < recursionLimit
 un : A.units + 16 * k + 200 < cLine
theorem Room.mono {j k : Nat} {A : Around} (r : Room k A) (h : j <= k) : Room j A := ⟨r.hd, by have := r.dp; omega, by have := r.un; omega⟩
theorem Room.deeper {k : Nat} {A : Around} (r : Room (k + 1) A) (env : Env) : Room k (A.deeper env) :=
 ⟨r.hd, by have := r.dp; show A.depth + 1 + 3 * k + 5 < _; omega, by have := r.un; show A.units + 3 + 16 * k + 200 < _; omega⟩
theorem ie0 {A : Around} {C : Addr} {us : List Value} {kw : List (Str × Value)} : (A.under (.builtin "type.__call__" ⟨.ref C :: us, kw⟩)).depth = A.depth + 1 := by
 first | rfl | simp [Around.under, Code.weight, Code.isCreation, Code.isGuard, Code.isCaller, Code.frames, Code.isFrame, guardIds]
theorem hP0 {A : Around} {C : Addr} {us : List Value} {kw : List (Str × Value)} : (A.under (.builtin "type.__call__" ⟨.ref C :: us, kw⟩)).units = A.units + 1 := by
 first | rfl | simp [Around.under, Code.cUnits, Code.frames, Code.isFrame]
theorem Room.make {k : Nat} {A : Around} (r : Room (k + 1) A) (C : Addr) (us : List Value) (kw : List (Str × Value)) : Room k (A.under (.builtin "type.__call__" ⟨.ref C :: us, kw⟩)) :=
 ⟨r.hd, by have := r.dp; rw [ie0]; omega, by have := r.un; rw [hP0]; omega⟩
theorem Room.depth {k : Nat} {A : Around} (r : Room k A) : A.depth < recursionLimit := by have := r.dp; omega
theorem Room.units {k : Nat} {A : Around} (r : Room k A) : A.units + 64 < cLine := by have := r.un; omega
def tNil : TA := fun _ H Q => Q [] H
def dF0 (ta : TE) (tr : TA) : TA := fun σ H Q => ta σ H fun x H1 => tr σ H1 fun xs H2 => Q (x :: xs) H2
section
variable {X : Cx} {e : Expr} {es : List Expr} {te : TE} {t : TA} {pos : Pos}
theorem cI0 : PA X [] tNil := fun _ _ _ _ H Q I h => Calls.spliced_nil ⟨[], H, I, .nil, h⟩
theorem bo0 (ha : PE X e te) (hr : PA X es t) (hs : starEach (e :: es) X.env = (false, eval e X.env) :: starEach es X.env := by rfl) : PA X (e :: es) (dF0 te t) := by
 intro pos pins s σ H Q I h
 rw [hs]
 show wpAny _ _ (spliced ((false, eval e X.env) :: backTo pos (starEach es X.env))) _ _ s
 refine Calls.spliced_cons (thn (ha pins s σ H _ I h) fun u s1 ⟨x, H1, I1, r1, q1⟩ => ?_)
 exact thn (hr pos pins s1 σ H1 _ I1 q1) fun us s2 ⟨xs, H2, I2, r2, q2⟩ => ⟨x :: xs, H2, I2, .cons r1 r2, q2⟩
def tTup (t : TA) : TE := fun σ H Q => t σ H fun xs H1 => xs.length <= sizeLine /\ ∀ p, H1 p = none -> Q (.ref p) (upd H1 p (.tup xs))
def tLst (t : TA) : TE := fun σ H Q => t σ H fun xs H1 => xs.length <= sizeLine /\ ∀ p, H1 p = none -> Q (.ref p) (upd H1 p (.lst xs))
theorem mC0 {x1} (h : PA X es t) : PE X (.Tuple es x1 pos) (tTup t) := by
 intro pins s σ H Q I hq
 refine wpAny_Tuple_spliced (thn (h pos pins s σ H _ I hq) fun us s1 ⟨xs, H1, I1, r, z, q⟩ => ⟨by rw [<- r.length]; exact z, ?_⟩)
 have hf : H1 s1.heap.objs.size = none := I1.hok.fresh (Nat.le_refl _)
 refine ⟨.ref s1.heap.objs.size, upd H1 s1.heap.objs.size (.tup xs), I1.laid (t' := s1.toks) (fun b u e => Heap.get?_push_of_some _ e) (Nat.le_refl _) ?_, rfl, q _ hf⟩
 exact ⟨z, us, r, ⟨_, Heap.get?_push_size _ rfl, rfl, _, rfl⟩, _, Heap.get?_push_size _ rfl, rfl⟩
theorem jG0 (h : PA X es t) : PE X (.List es pos) (tLst t) := by
 intro pins s σ H Q I hq
 refine wpAny_List_spliced (thn (h pos pins s σ H _ I hq) fun us s1 ⟨xs, H1, I1, r, z, q⟩ => ⟨by rw [<- r.length]; exact z, ?_⟩)
 have hf : H1 s1.heap.objs.size = none := I1.hok.fresh (Nat.le_refl _)
 refine ⟨.ref s1.heap.objs.size, upd H1 s1.heap.objs.size (.lst xs), I1.laid (t' := s1.toks) (fun b u e => Heap.get?_push_of_some _ e) (Nat.le_refl _) ?_, rfl, q _ hf⟩
 exact ⟨z, us, 0, r, Heap.get?_push_size _ rfl⟩
end
abbrev Sp := List V -> Hp -> VK -> XK -> Prop
abbrev CXT := List Env -> Hp -> Shared -> XK -> Value -> Shared -> Prop
structure Env0 (P : Program) (w : World) (K : PySem.W.Frag) (mg : Str -> Option Value) (base : Heap) (A : Around) (outer : List Env) (s : Shared) (H : Hp) : Prop where
 frames : A.frames = some outer
 mod : Mod K mg base
 bs : ∀ b o, base.get? b = some o -> s.heap.get? b = some o /\ H b = none
 bsz : base.objs.size <= s.heap.objs.size
 funs : s.heap.FunFrames base outer
 frf : ∀ b ∈ frs outer, H b = none
 hok : HOk P w H s.heap
 bare : AllBare s.gens
def CE (outer : List Env) (P : Program) (w : World) (H : Hp) (s : Shared) (Q : VK) (u : Value) (s' : Shared) : Prop :=
 ∃ v H', s'.os = s.os /\ AllBare s'.gens /\ Un (frs outer) [] H H' s.heap s'.heap /\ HOk P w H' s'.heap /\ RelV v u /\ Q v H'
def CR (CX : CXT) (outer : List Env) (P : Program) (w : World) (H : Hp) (s : Shared) (Q : VK) (E : XK) (r : Result) (s' : Shared) : Prop :=
 match r with
 | .ok (.ret u) => CE outer P w H s Q u s'
 | .ok _ => False
 | .error e => CX outer H s E e s'
structure FnOk (P : Program) (w : World) (K : PySem.W.Frag) (mg : Str -> Option Value) (base : Heap) (CX : CXT) (k : Nat) (f : Addr) (fd : FuncData) (ps : List Str) (sp : Sp) : Prop where
 len : ∀ vs H Q E, sp vs H Q E -> vs.length = ps.length
 run : ∀ (A : Around) (outer : List Env) (s : Shared) (H : Hp) (args : Args) (us : List Value) (vs : List V) (Q : VK) (E : XK), Room k A -> Env0 P w K mg base A outer s H -> BindsTo s fd args (ps.zip us) -> Vals vs us -> sp vs H Q E ->
  codeAny (model P w) A (.call (.ref f) args) (CR CX outer P w H s Q E) s
theorem FnOk.mono {P : Program} {w : World} {K : PySem.W.Frag} {mg : Str -> Option Value} {base : Heap} {CX : CXT} {j k : Nat} {f : Addr} {fd : FuncData} {ps : List Str} {sp : Sp} (F : FnOk P w K mg base CX j f fd ps sp) (h : j <= k) :
  FnOk P w K mg base CX k f fd ps sp := ⟨F.len, fun A outer s H args us vs Q E hr => F.run A outer s H args us vs Q E (hr.mono h)⟩
theorem FnOk.imp {P : Program} {w : World} {K : PySem.W.Frag} {mg : Str -> Option Value} {base : Heap} {CX : CXT} {k : Nat} {f : Addr} {fd : FuncData} {ps : List Str} {sp sp' : Sp} (F : FnOk P w K mg base CX k f fd ps sp)
  (h : ∀ vs H Q E, sp' vs H Q E -> sp vs H Q E) : FnOk P w K mg base CX k f fd ps sp' :=
 ⟨fun vs H Q E q => F.len vs H Q E (h _ _ _ _ q), fun A outer s H args us vs Q E hr he hb hv hs => F.run A outer s H args us vs Q E hr he hb hv (h _ _ _ _ hs)⟩
theorem Env0.make {P : Program} {w : World} {K : PySem.W.Frag} {mg : Str -> Option Value} {base : Heap} {A : Around} {outer : List Env} {s : Shared} {H : Hp} (e : Env0 P w K mg base A outer s H) (C : Addr) (us : List Value) (kw : List (Str × Value)) :
  Env0 P w K mg base (A.under (.builtin "type.__call__" ⟨.ref C :: us, kw⟩)) outer s H := ⟨by first | exact e.frames | (simpa [Around.under, Code.envs, Code.isFrame, pushEnvs] using e.frames), e.mod, e.bs, e.bsz, e.funs, e.frf, e.hok, e.bare⟩
section
variable {X : Cx} {pins : List (Addr × Obj)} {σ : St} {H : Hp} {s s' : Shared}
theorem Inv.env0 (I : Inv X pins σ H s) : Env0 X.prog X.w X.K X.mg X.base X.A X.stack s H :=
 ⟨I.ok.frames, I.ok.mod, I.bs, Nat.le_trans I.ok.bsz I.sz, I.stack, I.stkFree, I.hok, I.bare⟩
theorem Inv.after {Q : VK} {u : Value} (I : Inv X pins σ H s) (h : CE X.stack X.prog X.w H s Q u s') : EP X pins σ Q u s' := by
 obtain ⟨v, H', os, bare, un, hok, r, q⟩ := h
 obtain ⟨hh, g, d, t, os'⟩ := s'
 obtain rfl : os' = s.os := os
 exact ⟨v, H', I.call (h' := hh) (g' := g) (d' := d) (t' := t) (ch := []) un hok bare (fun b z => absurd z (by simp)), r, q⟩
end
def jz0 (sp : Sp) (dvs : List V) (E : XK) (t : TA) : TE := fun σ H Q => t σ H fun vs H1 => sp (vs ++ dvs) H1 Q E
def lA0 (C : Addr) (m : Str) (sp : Sp) (dvs : List V) (E : XK) (ta : TE) (t : TA) : TE := fun σ H Q => ta σ H fun x H1 => ∃ a dx fs, x = .ref a /\ H1 a = some (.ins C dx fs) /\ fs.lookup m = none /\
 t σ H1 fun vs H2 => sp (x :: (vs ++ dvs)) H2 Q E
def tMake (C : Addr) (sp : Sp) (dvs : List V) (E : XK) (t : TA) : TE := fun σ H Q => t σ H fun vs H1 => ∀ x dx, H1 x = none -> H1 dx = none -> dx ≠ x ->
 sp (.ref x :: (vs ++ dvs)) (upd (upd H1 dx (.own x)) x (.ins C dx [])) (fun v H2 => v = .non /\ Q (.ref x) H2) E
def Binds (K : PySem.W.Frag) (fd : FuncData) (ps : List Str) (ds : List Value) : Prop :=
 ∀ (s : Shared) (us : List Value), K.In s.heap -> (us ++ ds).length = ps.length -> BindsTo s fd ⟨us, []⟩ (ps.zip (us ++ ds))
theorem Binds.all {K : PySem.W.Frag} {fd : FuncData} {ps : List Str} (h : ∀ us : List Value, us.length = ps.length -> bindArgs fd ⟨us, []⟩ = pure (ps.zip us)) : Binds K fd ps [] := fun s us _ hl => by
 rw [List.append_nil] at hl ⊢
 exact .of_eq (h us hl)
def ef0 (CX : CXT) (X : Cx) (E : XK) : Prop := ∀ (pins : List (Addr × Obj)) (σ : St) (H : Hp) (s : Shared) (e : Value) (s' : Shared), Inv X pins σ H s -> CX X.stack H s E e s' -> X.xe e s'
section
variable {X : Cx} {CX : CXT} {k : Nat} {f C : Addr} {fd : FuncData} {ps : List Str} {sp : Sp} {dvs : List V} {ds : List Value} {E : XK} {x m : Str} {p pos apos : Pos} {e o : Expr} {es : List Expr} {ta : TE} {t : TA}
theorem kI0 {pins : List (Addr × Obj)} {σ : St} {H : Hp} {s : Shared} {Q : VK} {us : List Value} {vs : List V} (F : FnOk X.prog X.w X.K X.mg X.base CX k f fd ps sp) (hr : Room k X.A) (hb : Binds X.K fd ps ds) (hd : Vals dvs ds) (hx : ef0 CX X E)
  (I : Inv X pins σ H s) (r : Vals vs us) (h : sp (vs ++ dvs) H Q E) : wpAny (model X.prog X.w) X.A (call (.ref f) us) (EP X pins σ Q) X.xe s := by
 have r2 : Vals (vs ++ dvs) (us ++ ds) := r.append hd
 have hl : (us ++ ds).length = ps.length := by rw [<- r2.length]; exact F.len _ _ _ _ h
 refine wpAny_call (codeAny_mono (F.run X.A X.stack s H ⟨us, []⟩ (us ++ ds) (vs ++ dvs) Q E hr I.env0 (hb s us I.kIn hl) r2 h) fun r s' hq => ?_)
 cases r with
 | error e => exact hx pins σ H s e s' I hq
 | ok fl =>
  cases fl with
  | ret u => exact I.after hq
  | next => exact False.elim hq
  | brk => exact False.elim hq
  | cont => exact False.elim hq
theorem ga0 (F : FnOk X.prog X.w X.K X.mg X.base CX k f fd ps sp) (hr : Room k X.A) (hg : Gl X x) (hm : X.mg x = some (.ref f)) (hk : PySem.W.keepIn X.K (.ref f) = true) (hb : Binds X.K fd ps ds) (hd : Vals dvs ds) (hx : ef0 CX X E)
  (ha : PA X (e :: es) t) (hdb : (x == ("__debug__" : Str)) = false := by decide) (he : starEach (e :: es) X.env = (false, eval e X.env) :: starEach es X.env := by rfl) (hpl : (backTo pos (starEach es X.env)).any (·.1) = false := by rfl) :
  PE X (.Call (.Name x p) (e :: es) [] pos) (jz0 sp dvs E t) := by
 intro pins s σ H Q I h
 refine wpAny_Call_Name_kw (fY0 I hg hm ?_ hdb)
 refine PySem.W.callWith_K (h₀ := X.base) I.ok.mod.kin hk (thn (ha pos pins s σ H _ I h) fun us s1 ⟨vs, H1, I1, r, q⟩ => ⟨I1.kIn, ?_⟩) he hpl
 exact kI0 F hr hb hd hx I1 r q
theorem iK0 {pl : Sem Bool} (he : PE X o ta) (c : Cls X.K C) (hm : Meth X.K C m f) (F : FnOk X.prog X.w X.K X.mg X.base CX k f fd ps sp) (hr : Room k X.A) (hb : Binds X.K fd ps ds) (hd : Vals dvs ds) (hx : ef0 CX X E) (ha : PA X (e :: es) t)
  (hst : starEach (e :: es) X.env = (false, eval e X.env) :: starEach es X.env := by rfl) (hpl : (backTo pos (starEach es X.env)).any (·.1) = false := by rfl)
  (ht : eval (.Call (.Attribute o m apos) (e :: es) [] pos) X.env = (do
   let ov <- eval o X.env
   standAt apos.atName
   let (f, first) <- holding [ov] (getMethod ov m pl)
   callWith pos f first (backTo pos (starEach (e :: es) X.env)) (backToKw pos (keywordEach [] X.env))) := by rfl) :
  PE X (.Call (.Attribute o m apos) (e :: es) [] pos) (lA0 C m sp dvs E ta t) := by
 intro pins s σ H Q I h
 refine PySem.W.methodCall_KW (pl := pl) (thn (he pins s σ H _ I h) fun u s1 ⟨x, H1, I1, rx, a, dx, fs, ex, ea, l, q⟩ => ?_) ht
 subst ex
 obtain rfl : u = Value.ref a := rx
 refine es0 I1 ea c hm l ?_
 refine PySem.W.callWith_K (first := [.ref a]) (h₀ := X.base) I.ok.mod.kin hm.kp (thn (ha pos pins s1 σ H1 _ I1 q) fun us s2 ⟨vs, H2, I2, r, q2⟩ => ⟨I2.kIn, ?_⟩) hst hpl
 exact kI0 (us := .ref a :: us) (vs := .ref a :: vs) F hr hb hd hx I2 (.cons rfl r) q2
theorem lR0 {pl : Sem Bool} (he : PE X o ta) (c : Cls X.K C) (hm : Meth X.K C m f) (F : FnOk X.prog X.w X.K X.mg X.base CX k f fd ps sp) (hr : Room k X.A) (hb : Binds X.K fd ps ds) (hd : Vals dvs ds) (hx : ef0 CX X E)
  (ht : eval (.Call (.Attribute o m apos) [] [] pos) X.env = (do
   let ov <- eval o X.env
   standAt apos.atName
   let (f, first) <- holding [ov] (getMethod ov m pl)
   callWith pos f first (backTo pos (starEach [] X.env)) (backToKw pos (keywordEach [] X.env))) := by rfl) :
  PE X (.Call (.Attribute o m apos) [] [] pos) (lA0 C m sp dvs E ta tNil) := by
 intro pins s σ H Q I h
 refine PySem.W.methodCall_KW (pl := pl) (thn (he pins s σ H _ I h) fun u s1 ⟨x, H1, I1, rx, a, dx, fs, ex, ea, l, q⟩ => ?_) ht
 subst ex
 obtain rfl : u = Value.ref a := rx
 refine es0 I1 ea c hm l ?_
 exact PySem.W.callWith_K0 (first := [.ref a]) I1.kIn hm.kp (kI0 (us := [.ref a]) (vs := [.ref a]) F hr hb hd hx I1 (.cons rfl .nil) q)
structure Mk (K : PySem.W.Frag) (C f : Addr) : Prop where
 makes : PySem.W.makesIn K C = true
 init : PySem.W.findIn K (.ref C) "__init__" = some (some (.ref f))
 fn : PySem.W.isFn K (.ref f) = true
 kp : PySem.W.keepIn K (.ref C) = true
theorem lQ0 {pins : List (Addr × Obj)} {σ : St} {H : Hp} {s : Shared} {Q : VK} {us : List Value} {vs : List V} (M : Mk X.K C f) (F : FnOk X.prog X.w X.K X.mg X.base CX k f fd ps sp) (hr : Room (k + 1) X.A) (hb : Binds X.K fd ps ds) (hd : Vals dvs ds)
  (hx : ef0 CX X E) (I : Inv X pins σ H s) (r : Vals vs us)
  (h : ∀ x dx, H x = none -> H dx = none -> dx ≠ x -> sp (.ref x :: (vs ++ dvs)) (upd (upd H dx (.own x)) x (.ins C dx [])) (fun v H2 => v = .non /\ Q (.ref x) H2) E) :
  wpAny (model X.prog X.w) X.A (call (.ref C) us) (EP X pins σ Q) X.xe s := by
 have hq := h (s.heap.objs.size + 1) s.heap.objs.size (I.hok.fresh (Nat.le_succ _)) (I.hok.fresh (Nat.le_refl _)) (Nat.ne_of_lt (Nat.lt_succ_self _))
 have I2 := Inv.made (C := C) I
 have r2 : Vals (V.ref (s.heap.objs.size + 1) :: (vs ++ dvs)) (Value.ref (s.heap.objs.size + 1) :: (us ++ ds)) := .cons rfl (r.append hd)
 have hl : (Value.ref (s.heap.objs.size + 1) :: us ++ ds).length = ps.length := by
  have e := r2.length
  rw [F.len _ _ _ _ hq] at e
  exact e.symm
 refine wpAny_call (lK0 (f := f) I.kIn M.makes M.init (beq_iff_eq.mp M.fn) (codeAny_mono (F.run _ X.stack _ _ ⟨Value.ref (s.heap.objs.size + 1) :: us, []⟩ (Value.ref (s.heap.objs.size + 1) :: (us ++ ds)) _ _ E (hr.make C us [])
  (I2.env0.make C us []) (hb _ (Value.ref (s.heap.objs.size + 1) :: us) I2.kIn hl) r2 hq) fun r s' hq' => ?_))
 cases r with
 | error e => exact hx pins σ _ _ e s' I2 hq'
 | ok fl =>
  cases fl with
  | ret u =>
   obtain ⟨v, H', I3, rv, ev, q3⟩ := I2.after hq'
   subst ev
   exact ⟨rv, ⟨V.ref (s.heap.objs.size + 1), H', I3, rfl, q3⟩⟩
  | next => exact False.elim hq'
  | brk => exact False.elim hq'
  | cont => exact False.elim hq'
theorem of0 (M : Mk X.K C f) (F : FnOk X.prog X.w X.K X.mg X.base CX k f fd ps sp) (hr : Room (k + 1) X.A) (hg : Gl X x) (hm : X.mg x = some (.ref C)) (hb : Binds X.K fd ps ds) (hd : Vals dvs ds) (hx : ef0 CX X E)
  (ha : PA X (e :: es) t) (hdb : (x == ("__debug__" : Str)) = false := by decide) (he : starEach (e :: es) X.env = (false, eval e X.env) :: starEach es X.env := by rfl) (hpl : (backTo pos (starEach es X.env)).any (·.1) = false := by rfl) :
  PE X (.Call (.Name x p) (e :: es) [] pos) (tMake C sp dvs E t) := by
 intro pins s σ H Q I h
 refine wpAny_Call_Name_kw (fY0 I hg hm ?_ hdb)
 refine PySem.W.callWith_K (h₀ := X.base) I.ok.mod.kin M.kp (thn (ha pos pins s σ H _ I h) fun us s1 ⟨vs, H1, I1, r, q⟩ => ⟨I1.kIn, ?_⟩) he hpl
 exact lQ0 M F hr hb hd hx I1 r q
end
section
variable {X : Cx} {CX : CXT} {k : Nat} {f C : Addr} {fd : FuncData} {ps ks : List Str} {sp : Sp} {E : XK} {x m : Str} {p pos apos kpos : Pos} {e o : Expr} {es : List Expr} {kws : List Keyword} {te ta : TE} {t tk : TA} {nm : Option Str}
variable {g : List Value -> List Value -> List Value} {gV : List V -> List V -> List V}
end
structure FnScope (N P : List Str) (sc : Scope) : Prop where
 kind : sc.kind = .function
 co : sc.isCoroutine = false
 gen : sc.isGenerator = false
 nd : N.Nodup
 pre : N.take P.length = P
 par : ∀ x ∈ P, sc.names.lookup x = some .local \/ sc.names.lookup x = some .cell
 nofree : ∀ y ∈ sc.names, y.2 ≠ .free
theorem fc0 {kindOf : Str -> Option NameKind} {x : Str} : ∀ {binds : List (Str × Value)} {m : Str -> Option Value}, (∀ v, (x, v) ∉ binds) -> bindL kindOf binds m x = m x
 | [], _, _ => rfl
 | (n, v) :: r, m, h => by
  unfold bindL
  rw [fc0 fun w hw => h w (List.mem_cons_of_mem _ hw)]
  split
  ·have : x ≠ n := by rintro rfl; exact h v List.mem_cons_self
   simp [this]
  ·rfl
theorem fI0 {kindOf : Str -> Option NameKind} {x : Str} : ∀ {binds : List (Str × Value)} {m : Str -> Option Value}, (∀ v, (x, v) ∉ binds) -> bindC kindOf binds m x = m x
 | [], _, _ => rfl
 | (n, v) :: r, m, h => by
  unfold bindC
  rw [fI0 fun w hw => h w (List.mem_cons_of_mem _ hw)]
  split
  ·rfl
  ·have : x ≠ n := by rintro rfl; exact h v List.mem_cons_self
   simp [this]
theorem fd0 {kindOf : Str -> Option NameKind} {x : Str} {v : Value} : ∀ {P : List Str} {vs : List Value} {i : Nat} {m : Str -> Option Value}, P.Nodup -> P[i]? = some x -> vs[i]? = some v -> kindOf x = some .local ->
  bindL kindOf (P.zip vs) m x = some v
 | [], _, _, _, _, h, _, _ => by simp at h
 | _ :: _, [], _, _, _, _, h, _ => by simp at h
 | p :: P, w :: vs, 0, m, nd, h1, h2, hk => by
  simp at h1 h2; subst h1; subst h2
  show bindL kindOf ((p, w) :: P.zip vs) m p = _
  unfold bindL
  rw [fc0 fun v hv => (List.nodup_cons.mp nd).1 (List.of_mem_zip hv).1, if_pos hk]
  simp
 | p :: P, w :: vs, i + 1, m, nd, h1, h2, hk => by
  show bindL kindOf ((p, w) :: P.zip vs) m x = _
  unfold bindL
  exact fd0 (i := i) (List.nodup_cons.mp nd).2 (by simpa using h1) (by simpa using h2) hk
theorem fL0 {kindOf : Str -> Option NameKind} {x : Str} {v : Value} : ∀ {P : List Str} {vs : List Value} {i : Nat} {m : Str -> Option Value}, P.Nodup -> P[i]? = some x -> vs[i]? = some v -> kindOf x ≠ some .local ->
  bindC kindOf (P.zip vs) m x = some v
 | [], _, _, _, _, h, _, _ => by simp at h
 | _ :: _, [], _, _, _, _, h, _ => by simp at h
 | p :: P, w :: vs, 0, m, nd, h1, h2, hk => by
  simp at h1 h2; subst h1; subst h2
  show bindC kindOf ((p, w) :: P.zip vs) m p = _
  unfold bindC
  rw [fI0 fun v hv => (List.nodup_cons.mp nd).1 (List.of_mem_zip hv).1, if_neg hk]
  simp
 | p :: P, w :: vs, i + 1, m, nd, h1, h2, hk => by
  show bindC kindOf ((p, w) :: P.zip vs) m x = _
  unfold bindC
  exact fL0 (i := i) (List.nodup_cons.mp nd).2 (by simpa using h1) (by simpa using h2) hk
def start (N : List Str) (vs : List V) : St := vs.map some ++ List.replicate (N.length - vs.length) none
def cxOf (CX : CXT) (P : Program) (w : World) (K : PySem.W.Frag) (mg : Str -> Option Value) (base : Heap) (N : List Str) (qual : Str) (scope : Scope) (f : Addr) (cd : Value) (A : Around) (outer : List Env) (s : Shared) (H : Hp) (E : XK) : Cx where
 prog := P
 w := w
 K := K
 mg := mg
 base := base
 A := A.deeper (envOfC qual scope s.heap.objs.size f cd)
 N := N
 s₀ := s
 H₀ := H
 env := envOfC qual scope s.heap.objs.size f cd
 outer := outer
 stack := envOfC qual scope s.heap.objs.size f cd :: outer
 ex := []
 calm := true
 fn := fun _ => true
 pn := []
 xe := fun e s' => wpAny (model P w) (A.deeper (envOfC qual scope s.heap.objs.size f cd)) (leaving (envOfC qual scope s.heap.objs.size f cd) e) (fun _ s'' => CX outer H s E e s'') (fun e' s'' => CX outer H s E e' s'') s'
theorem gB0 {sc : Scope} {n : Nat} {x : Str} (h : sc.names.lookup x = some .cell) : ∃ c, (cellsFrom n sc.names []).lookup x = some c := by
 have q := PySem.W.cellsFrom_some sc.names n [] (.inl h)
 exact Option.isSome_iff_exists.mp q
theorem iY0 {CX : CXT} {P : Program} {w : World} {K : PySem.W.Frag} {mg : Str -> Option Value} {base : Heap} {N ps : List Str} {qual : Str} {scope : Scope} {f : Addr} {cd : Value} {A : Around} {outer : List Env} {s s1 : Shared} {H : Hp} {E : XK} {us : List Value} {vs : List V}
  (S : FnScope N ps scope) (hd : A.handled = none) (e0 : Env0 P w K mg base A outer s H) (hl : vs.length = ps.length) (r : Vals vs us)
  (x : InCallC s s.heap.objs.size (bindL (envOfC qual scope s.heap.objs.size f cd).kindOf (ps.zip us) fun _ => none) (cellsFrom (s.heap.objs.size + 1) scope.names []) (bindC (envOfC qual scope s.heap.objs.size f cd).kindOf (ps.zip us) fun _ => none) s1) :
  Inv (cxOf CX P w K mg base N qual scope f cd A outer s H E) [] (start N vs) H s1 := by
 have hpl : ps.length <= N.length := by have := congrArg List.length S.pre; rw [List.length_take] at this; omega
 obtain ⟨h1, tk, rfl, hk⟩ := x.done
 have noA : ∀ b : Addr, b ∉ (cxOf CX P w K mg base N qual scope f cd A outer s H E).ex := fun b z => absurd (show b ∈ ([] : List Addr) from z) (by simp)
 refine ⟨⟨e0.mod, S.kind, rfl, rfl, Nat.le_refl _, fun y z c h1 h2 => ?_, fun y hy => ?_, fun y c _ h => ?_, fun _ => hd, Around.frames_deeper e0.frames, .inr ⟨rfl, rfl⟩, fun b z => absurd z (noA b), e0.bs, e0.bsz, fun b _ _ => noA b, fun b z => absurd z (noA b), e0.funs, e0.frf⟩,
  rfl, e0.bare, Un.kept hk, ⟨_, x.toInCall.ns, fun i y v h1 h2 h3 => ?_⟩, fun y c h => ⟨_, x.cell y c h⟩, e0.hok.fresh (Nat.le_refl _), fun y c h => ?_, fun p hp => absurd (show p ∈ ([] : List (Addr × Obj)) from hp) (by simp), e0.hok.kept hk, ?_⟩
 ·exact name_of_addr x.apart (PySem.mem_of_lookup h1) (PySem.mem_of_lookup h2)
 ·have hy : scope.names.lookup y = some .cell \/ scope.names.lookup y = some .free := hy
  rcases hy with hy | hy
  ·exact gB0 hy
  ·exact absurd rfl (S.nofree _ (PySem.mem_of_lookup hy))
 ·exact Nat.le_of_lt (x.above y c (PySem.mem_of_lookup h))
 ·have hi : i < vs.length := by
   unfold start at h2
   by_cases hi : i < vs.length
   ·exact hi
   ·rw [List.getElem?_append_right (by simpa using hi)] at h2
    rw [List.getElem?_replicate] at h2
    split at h2 <;> cases h2
  have ha : vs[i]? = some v := by
   unfold start at h2
   rw [List.getElem?_append_left (by simpa using hi), List.getElem?_map] at h2
   cases e : vs[i]? with
   | none => rw [e] at h2; cases h2
   | some a => rw [e] at h2; cases h2; rfl
  obtain ⟨u, hu, rv⟩ := r.get ha
  have hp : ps[i]? = some y := by
   rw [<- S.pre, List.getElem?_take_of_lt (by omega)]; exact h1
  have ndP : ps.Nodup := by rw [<- S.pre]; exact S.nd.sublist (List.take_sublist _ _)
  refine ⟨u, rv, ?_⟩
  rcases S.par y (List.mem_of_getElem? hp) with k | k
  ·exact .inl ⟨k, fd0 ndP hp hu k⟩
  ·obtain ⟨c, e⟩ := gB0 (n := s.heap.objs.size + 1) k
   refine .inr ⟨.inl k, c, e, ?_⟩
   have q := x.cell y c e
   rw [fL0 ndP hp hu (by show scope.names.lookup y ≠ _; rw [k]; decide)] at q
   exact q
 ·exact e0.hok.fresh (Nat.le_of_lt (x.above y c (PySem.mem_of_lookup h)))
 ·unfold start
  show _ = N.length
  rw [List.length_append, List.length_map, List.length_replicate]
  omega
theorem fn_of {CX : CXT} {P : Program} {w : World} {K : PySem.W.Frag} {mg : Str -> Option Value} {base : Heap} {k : Nat} {f : Addr} {name qual : Str} {params : Arguments} {body : List Stmt} {scope : Scope} {dV kV doc pm cdv ct oc : Value} {an od : Option Addr}
  {osl : Array (Option Value)} {N ps : List Str} {sp : Sp} (lk : K.lookup f = some ⟨oc, od, .func (PySem.W.fnOf name qual params body scope dV kV doc pm an cdv ct), osl⟩) (hcd : PySem.W.codeIn K cdv qual = true) (S : FnScope N ps scope)
  (len : ∀ vs H Q E, sp vs H Q E -> vs.length = ps.length)
  (hbody : ∀ (A : Around) (outer : List Env) (s : Shared) (H : Hp) (vs : List V) (Q : VK) (E : XK), Room k (A.deeper (envOfC qual scope s.heap.objs.size f cdv)) -> sp vs H Q E ->
   ∃ t, PSs (cxOf CX P w K mg base N qual scope f cdv A outer s H E) body t /\ t { nx := fun _ H' => Q .non H', rt := Q } (start N vs) H) :
  FnOk P w K mg base CX (k + 1) f (PySem.W.fnOf name qual params body scope dV kV doc pm an cdv ct) ps sp := by
 refine ⟨len, fun A outer s H args us vs Q E hr e0 hb r hsp => ?_⟩
 have hl := len _ _ _ _ hsp
 have KX : K.In s.heap := e0.mod.kin.keeps fun b o e => (e0.bs b o e).1
 have lim : s.heap.NoLimit := e0.mod.nolimit.keeps fun b o e => (e0.bs b o e).1
 have hkind : ∀ y ∈ ps.zip us, scope.names.lookup y.1 = some .local \/ (scope.names.lookup y.1 = some .cell /\ ((cellsFrom (s.heap.objs.size + 1) scope.names []).lookup y.1).isSome = true) := fun ⟨n, v⟩ hy => by
  rcases S.par n (List.of_mem_zip hy).1 with q | q
  ·exact .inl q
  ·exact .inr ⟨q, PySem.W.cellsFrom_some _ _ _ (.inl q)⟩
 refine codeAny_call_function hr.depth (KX _ _ lk) rfl S.co S.gen rfl (PySem.W.codeRec_of KX hcd) (hb _ _ _ _ ?_)
 refine wpAny_newFunctionEnv_cells S.kind hkind fun env he s1 x => ?_
 subst he
 refine ⟨lim.keeps x.toInCall.keep, codeAny_func ?_⟩
 obtain ⟨t, ht, hq⟩ := hbody A outer s H vs Q E (hr.deeper _) hsp
 have I : Inv (cxOf CX P w K mg base N qual scope f cdv A outer s H E) [] (start N vs) H s1 := iY0 S hr.hd e0 hl r x
 refine wpAny_mono (ht [] s1 (start N vs) H _ I hq) (fun fl s' hs => ?_) fun e s' hs => hs
 have fin : ∀ {σ' : St} {H' : Hp} {v : V} {u : Value}, Inv (cxOf CX P w K mg base N qual scope f cdv A outer s H E) [] σ' H' s' -> RelV v u -> Q v H' -> CE outer P w H s Q u s' :=
  fun {σ' H' v u} J rv q => ⟨v, H', J.os, J.bare, J.base, J.hok, rv, q⟩
 cases fl with
 | ret u =>
  obtain ⟨v, σ', H', J, rv, q⟩ := hs
  exact fin J rv q
 | next =>
  obtain ⟨σ', H', J, q⟩ := hs
  exact fin (v := V.non) (u := Value.none) J rfl q
 | brk =>
  obtain ⟨_, _, _, q⟩ := hs
  exact False.elim q
 | cont =>
  obtain ⟨_, _, _, q⟩ := hs
  exact False.elim q
end L2
namespace L2
open PySem PySem.Spec PyProof.Rows
section
variable {X : Cx} {x : Str} {p pos : Pos} {e : Expr} {es : List Expr} {t : TA} {id T : String} {r : List V -> Hp -> VK -> Prop}
def tCB (r : List V -> Hp -> VK -> Prop) (t : TA) : TE := fun σ H Q => t σ H fun vs H1 => r vs H1 Q
theorem hB0 (hc : di0 X (.builtin id) r) (hg : Gl X x) (hm : X.mg x = none) (hv : bootBuiltins x = some (.builtin id)) (ha : PA X (e :: es) t) (hn : x ≠ "__name__" := by decide) (hdb : (x == ("__debug__" : Str)) = false := by decide)
  (he : starEach (e :: es) X.env = (false, eval e X.env) :: starEach es X.env := by rfl) (hpl : (backTo pos (starEach es X.env)).any (·.1) = false := by rfl) : PE X (.Call (.Name x p) (e :: es) [] pos) (tCB r t) := by
 intro pins s σ H Q I h
 refine wpAny_Call_Name_kw (ee0 I hg hm hv ?_ hn hdb)
 exact PyProof.Rows.callWith_builtin1 (thn (ha pos pins s σ H _ I h) fun us s1 ⟨vs, H1, I1, r1, q1⟩ => hc pins s1 σ H1 vs us Q I1 r1 q1) he hpl
theorem fm0 (hc : di0 X (.type T) r) (hg : Gl X x) (hm : X.mg x = none) (hv : bootBuiltins x = some (.type T)) (ha : PA X (e :: es) t) (hn : x ≠ "__name__" := by decide) (hdb : (x == ("__debug__" : Str)) = false := by decide)
  (he : starEach (e :: es) X.env = (false, eval e X.env) :: starEach es X.env := by rfl) (hpl : (backTo pos (starEach es X.env)).any (·.1) = false := by rfl) : PE X (.Call (.Name x p) (e :: es) [] pos) (tCB r t) := by
 intro pins s σ H Q I h
 refine wpAny_Call_Name_kw (ee0 I hg hm hv ?_ hn hdb)
 exact PyProof.Rows.callWith_type1 (thn (ha pos pins s σ H _ I h) fun us s1 ⟨vs, H1, I1, r1, q1⟩ => hc pins s1 σ H1 vs us Q I1 r1 q1) he hpl
end
end L2
namespace HT
open PySem PyProof.Rows
section
open PySem.SeqAt
open PySem.AutoSeq1 (wpAny_loadPart')
open PySem.MeetsSeq PySem.MeetsSeq2 PySem.MeetsSeq3
end
section
variable {prog : Program} {w : World} {A : Around} {E : Value -> Shared -> Prop} {s : Shared}
theorem cat_tup {t b : Addr} {vs ws : List Value} {Q : Value -> Shared -> Prop} (ht : IsTup s.heap t vs.toArray) (hb : IsTup s.heap b ws.toArray) (hv : vs ≠ [])
  (h1 : ws = [] -> Q (.ref t) s) (h2 : ws ≠ [] -> Q (.ref s.heap.objs.size) { s with heap := s.heap.push { cls := .type "tuple", data := .seq (vs ++ ws).toArray } })
  (hsz : vs.length + ws.length <= sizeLine) : wpAny (model prog w) A (binaryOp .Add (.ref t) (.ref b)) Q E s := by
 obtain ⟨⟨cls, dd, data, sl⟩, ho, hc, n, hd⟩ := id ht
 obtain ⟨⟨cls2, dd2, data2, sl2⟩, ho2, hc2, n2, hd2⟩ := id hb
 simp only at hc hd hc2 hd2
 subst hc hd hc2 hd2
 have e : vs.toArray ++ ws.toArray = (vs ++ ws).toArray := by simp
 by_cases hw : ws = []
 ·exact concat_meets ⟨_, ho, rfl⟩ ⟨_, ho2, rfl⟩ noFill_tuple_add seq_tuple_add PySem.F.slot_tuple_add PySem.F.entry_tuple_add (PySem.F.args_tuple_add_2 _ _)
   (tuple_addW1 t b vs.toArray ws.toArray n n2 dd dd2 sl sl2 (by simpa using hv) (by simp [hw])) ⟨ho, ho2, h1 hw⟩
 ·refine concat_meets ⟨_, ho, rfl⟩ ⟨_, ho2, rfl⟩ noFill_tuple_add seq_tuple_add PySem.F.slot_tuple_add PySem.F.entry_tuple_add (PySem.F.args_tuple_add_2 _ _)
   (tuple_addW2 t b vs.toArray ws.toArray n n2 dd dd2 sl sl2 (by simpa using hv) (by simpa using hw) (by rw [List.size_toArray, List.size_toArray]; exact hsz)) ⟨ho, ho2, ?_⟩
  rw [e]
  exact h2 hw
def sIx (n d : Nat) : Option Int -> Nat
 | none => d
 | some v => if v < 0 then (v + (n : Int)).toNat else min v.toNat n
theorem sIx_none (n d : Nat) : sIx n d none = d := rfl
theorem oq0 (n d : Nat) (hd : d <= n) (o : Option Int) : sIx n d o <= n := by
 cases o with
 | none => exact hd
 | some v =>
  show (if v < 0 then (v + (n : Int)).toNat else min v.toNat n) <= n
  by_cases hv : v < 0
  ·rw [if_pos hv]; omega
  ·rw [if_neg hv]; exact Nat.min_le_right _ _
theorem iN0 (v : Int) (n d : Nat) : (if v < 0 then max (v + (n : Int)) 0 else min v (n : Int)) = ((sIx n d (some v) : Nat) : Int) := by
 show (if v < 0 then max (v + (n : Int)) 0 else min v (n : Int)) = (((if v < 0 then (v + (n : Int)).toNat else min v.toNat n) : Nat) : Int)
 by_cases hv : v < 0
 ·simp only [if_pos hv]; omega
 ·simp only [if_neg hv]; omega
theorem hX0 (lo hi : Option Int) (n : Nat) : Builtin.Slice.sliceAdjust lo hi 1 (n : Int) = (((sIx n 0 lo : Nat) : Int), ((sIx n n hi : Nat) : Int)) := by
 have h1 : ¬ ((1 : Int) < 0) := by omega
 unfold Builtin.Slice.sliceAdjust
 simp only [h1, if_false]
 refine Prod.ext ?_ ?_
 ·cases lo with
  | none => rfl
  | some v => exact iN0 v n 0
 ·cases hi with
  | none => rfl
  | some v => exact iN0 v n n
theorem ic0 (i j : Nat) : Builtin.Slice.slicePlaces (i : Int) (j : Int) 1 = j - i := by
 unfold Builtin.Slice.slicePlaces
 have h1 : (1 : Int) > 0 := by omega
 simp only [h1, if_true, Int.ediv_one]
 split <;> omega
theorem er0 {v : Value} {o : Option Int} {Q : Option Int -> Shared -> Prop} (p : IsPart v o) (h : Q o s) : wpAny (model prog w) A (Builtin.Slice.slicePartIndex v) Q E s := by
 cases p with
 | none => exact slicePart_none h
 | int i t => exact slicePart_int h
theorem sliceApplied_gen {sl : Addr} {vl vu : Value} {lo hi : Option Int} {n : Nat} {Q : Int × Int × Nat -> Shared -> Prop} (hs : s.heap.IsSliceOf sl vl vu .none) (pl : IsPart vl lo) (pu : IsPart vu hi)
  (h : Q (((sIx n 0 lo : Nat) : Int), 1, sIx n n hi - sIx n 0 lo) s) : wpAny (model prog w) A (Builtin.Slice.sliceApplied (.ref sl) (pure (n : Int))) Q E s := by
 obtain ⟨os, hos, hcs, hds⟩ := id hs
 unfold Builtin.Slice.sliceApplied Builtin.Slice.sliceFields
 refine wpAny_bind (wpAny_bind (wpAny_field hos hds (x := vl) rfl (wpAny_bind (wpAny_field hos hds (x := vu) rfl (wpAny_bind (wpAny_field hos hds (x := .none) rfl (wpAny_pure ?_)))))))
 refine wpAny_bind (slicePart_none ?_)
 show wpAny _ _ (if ((1 : Int) == 0) = true then _ else _) _ _ s
 rw [if_neg (by decide)]
 refine wpAny_bind (er0 pl (wpAny_bind (er0 pu (wpAny_bind (wpAny_pure ?_)))))
 show wpAny _ _ (match Builtin.Slice.sliceAdjust lo hi 1 (n : Int) with | (lo, hi) => pure (lo, (1 : Int), Builtin.Slice.slicePlaces lo hi 1)) _ _ s
 rw [hX0 lo hi n]
 show wpAny _ _ (pure (((sIx n 0 lo : Nat) : Int), (1 : Int), Builtin.Slice.slicePlaces ((sIx n 0 lo : Nat) : Int) ((sIx n n hi : Nat) : Int) 1)) _ _ s
 rw [ic0]
 exact wpAny_pure h
theorem lO0 (xs : Array Value) (i k : Nat) : ((List.range k).filterMap fun (m : Nat) => xs[((i : Int) + (m : Int) * 1).toNat]?).toArray = ((xs.toList.drop i).take k).toArray := by
 have e : (fun (m : Nat) => xs[((i : Int) + (m : Int) * 1).toNat]?) = fun m => xs[i + m]? := by
  funext m
  have : ((i : Int) + (m : Int) * 1).toNat = i + m := by omega
  rw [this]
 rw [e]
 have := pick_run xs i k
 rw [List.filterMap_map] at this
 have e2 : ((fun x => xs[x]?) ∘ fun x => i + x) = fun m => xs[i + m]? := rfl
 rw [e2] at this
 rw [this]
theorem getItem_tuple_cut {t sl : Addr} {items : Array Value} {vl vu : Value} {lo hi : Option Int} {Q : Value -> Shared -> Prop} (ht : IsTup s.heap t items) (hs : s.heap.IsSliceOf sl vl vu .none) (pl : IsPart vl lo) (pu : IsPart vu hi)
  (hw : ¬ (sIx items.size 0 lo = 0 /\ sIx items.size items.size hi = items.size))
  (h : Q (.ref s.heap.objs.size) { s with heap := s.heap.push { cls := .type "tuple", data := .seq ((items.toList.drop (sIx items.size 0 lo)).take (sIx items.size items.size hi - sIx items.size 0 lo)).toArray } })
  (hsz : items.size <= sizeLine) : wpAny (model prog w) A (getItem (.ref t) (.ref sl)) Q E s := by
 have htake : sizeOk (.seq ((items.toList.drop (sIx items.size 0 lo)).take (sIx items.size items.size hi - sIx items.size 0 lo)).toArray) := by
  show ((items.toList.drop (sIx items.size 0 lo)).take (sIx items.size items.size hi - sIx items.size 0 lo)).toArray.size <= sizeLine
  rw [List.size_toArray, List.length_take, List.length_drop, Array.length_toList]
  omega
 have hj : sIx items.size items.size hi <= items.size := oq0 _ _ (Nat.le_refl _) hi
 obtain ⟨os, hos, hcs, hds⟩ := id hs
 have hTs : s.TypeIs (.ref sl) "slice" := ⟨os, hos, hcs⟩
 unfold getItem
 try with_reducible refine wpAny_holding ?_
 first | refine wpAny_bind (wpAny_pure ?_) | skip
 refine wpAny_bind (wpAny_sequenceKey ht.typeIs (by decide) ?_)
 refine wpAny_bind (wpAny_callSpecial?_slot (name := Str.ofString "__getitem__") ht.typeIs PyProof.Rows.slot_tuple_getitem
  (wpAny_call_entry PyProof.Rows.slot_tuple_getitem ht.typeIs entry_tuple_getitem ?_ (args_tuple_getitem _ _)))
 show wpAny _ _ (Builtin.Tuple.tupleItemsOf (.ref t) >>= _) _ _ s
 refine wpAny_bind (tupleItemsOf_ ht ?_)
 refine wpAny_bind (wpAny_typeOf hTs ?_)
 rw [if_pos (by decide)]
 refine wpAny_bind (sliceApplied_gen hs pl pu ?_)
 have hno : ¬ ((((sIx items.size 0 lo : Nat) : Int) == 0 && (1 : Int) == 1 && (sIx items.size items.size hi - sIx items.size 0 lo) == items.size) = true) := by
  intro q
  rw [Bool.and_eq_true, Bool.and_eq_true] at q
  have q1 : ((sIx items.size 0 lo : Nat) : Int) = 0 := eq_of_beq q.1.1
  have q2 : sIx items.size items.size hi - sIx items.size 0 lo = items.size := eq_of_beq q.2
  exact hw ⟨by omega, by omega⟩
 show wpAny _ _ (if (((sIx items.size 0 lo : Nat) : Int) == 0 && (1 : Int) == 1 && (sIx items.size items.size hi - sIx items.size 0 lo) == items.size) = true then _ else _) _ _ s
 rw [if_neg hno, lO0]
 first
  | exact wpAny_bind (m := Builtin.Tuple.tupleExact _) (wpAny_newObj_type (wpAny_pure ⟨_, rfl, wpAny_pure h⟩) htake)
  | exact wpAny_bind (m := Builtin.Tuple.tupleExact _) (wpAny_newObj_type (wpAny_bind (wpAny_pure (wpAny_pure ⟨_, rfl, wpAny_pure h⟩))) htake)
  | exact wpAny_bind (wpAny_bind (m := Builtin.Tuple.tupleExact _) (wpAny_newObj_type (wpAny_pure (wpAny_pure ⟨_, rfl, wpAny_pure h⟩)) htake))
  | exact wpAny_bind (wpAny_bind (m := Builtin.Tuple.tupleExact _) (wpAny_newObj_type (wpAny_pure ⟨_, rfl, wpAny_pure h⟩) htake))
end
end HT
namespace L2
open PySem PySem.Spec PyProof.Rows
abbrev TO := St -> Hp -> (Option Int -> Hp -> Prop) -> Prop
def PO (X : Cx) (e : Option Expr) (t : TO) : Prop :=
 ∀ (pins : List (Addr × Obj)) (s : Shared) (σ : St) (H : Hp) (Q : Option Int -> Hp -> Prop), Inv X pins σ H s -> t σ H Q ->
  wpAny (model X.prog X.w) X.A (evalPart e X.env) (fun u s' => ∃ o H', Inv X pins σ H' s' /\ IsPart u o /\ Q o H') X.xe s
def nE0 : TO := fun _ H Q => Q none H
def tPart (t : TE) : TO := fun σ H Q => t σ H fun x H1 => ∃ i, x = .int i /\ Q (some i) H1
theorem in0 {ns : List Int} : ∀ {us : List Value}, Vals (ns.map V.int) us -> IntsAre us ns := by
 induction ns with
 | nil => intro us r; rw [List.map_nil] at r; cases r; exact .nil
 | cons n ns ih =>
  intro us r
  rw [List.map_cons] at r
  cases r with
  | cons r1 r2 =>
   obtain ⟨t, e⟩ := r1
   subst e
   exact .cons n t (ih r2)
section
variable {X : Cx} {e : Expr} {te : TE} {lo hi : Option Expr} {tl th : TO} {pos p2 : Pos}
theorem nC0 : PO X none nE0 := by
 intro pins s σ H Q I h
 rw [evalPart_none]
 exact wpAny_pure ⟨none, H, I, .none, h⟩
theorem ny0 (h : PE X e te) : PO X (some e) (tPart te) := by
 intro pins s σ H Q I hw
 rw [evalPart_some]
 refine thn (h pins s σ H _ I hw) fun u s1 ⟨x, H1, I1, r1, q1⟩ => ?_
 obtain ⟨i, rfl, q⟩ := q1
 obtain ⟨t, rfl⟩ := r1
 exact ⟨some i, H1, I1, .int i t, q⟩
def SlR (X : Cx) (r : V -> Option Int -> Option Int -> Hp -> VK -> Prop) : Prop :=
 ∀ (pins : List (Addr × Obj)) (s : Shared) (σ : St) (H : Hp) (x : V) (v vl vu : Value) (lo hi : Option Int) (sl : Addr) (Q : VK), Inv X pins σ H s -> RelV x v -> s.heap.IsSliceOf sl vl vu .none -> IsPart vl lo -> IsPart vu hi -> r x lo hi H Q ->
  ∃ T id, typeLookup (.type T) "__getitem__" = pure (some (.builtin id)) /\ s.TypeIs v T /\ wpAny (model X.prog X.w) X.A (getItem v (.ref sl)) (EP X pins σ Q) X.xe s
theorem SlR.or {r r' : V -> Option Int -> Option Int -> Hp -> VK -> Prop} (h : SlR X r) (h' : SlR X r') : SlR X (fun x lo hi H Q => r x lo hi H Q \/ r' x lo hi H Q) := by
 intro pins s σ H x v vl vu lo hi sl Q I rx hs pl pu q
 rcases q with q | q
 ·exact h pins s σ H x v vl vu lo hi sl Q I rx hs pl pu q
 ·exact h' pins s σ H x v vl vu lo hi sl Q I rx hs pl pu q
def tSl (r : V -> Option Int -> Option Int -> Hp -> VK -> Prop) (te : TE) (tl th : TO) : TE := fun σ H Q => te σ H fun x H1 => tl σ H1 fun l H2 => th σ H2 fun u H3 => r x l u H3 Q
theorem gL0 {r : V -> Option Int -> Option Int -> Hp -> VK -> Prop} (hr : SlR X r) (he : PE X e te) (hl : PO X lo tl) (hu : PO X hi th) : PE X (.Subscript e (.Slice lo hi none p2) pos) (tSl r te tl th) := by
 intro pins s σ H Q I h
 refine Subscript_ (thn (he pins s σ H _ I h) fun v s1 ⟨x, H1, I1, r1, q1⟩ => ?_)
 refine wpAny_Slice (thn (hl pins s1 σ H1 _ I1 q1) fun vl s2 ⟨l, H2, I2, pl, q2⟩ => thn (hu pins s2 σ H2 _ I2 q2) fun vu s3 ⟨u, H3, I3, pu, q3⟩ => ?_)
 rw [evalPart_none]
 refine wpAny_pure ?_
 have I4 : Inv X pins σ H3 { s3 with heap := s3.heap.push { cls := .type "slice", data := .fields #[vl, vu, .none] } } := I3.kept (t' := s3.toks) fun b ob q => Heap.get?_push_of_some _ q
 obtain ⟨T, id, hT, ht, hg⟩ := hr pins { s3 with heap := s3.heap.push { cls := .type "slice", data := .fields #[vl, vu, .none] } } σ H3 x v vl vu l u s3.heap.objs.size Q I4 r1 (Heap.IsSliceOf.new ..) pl pu q3
 show wpAny (model X.prog X.w) X.A (subscriptTail e (.Slice lo hi none p2) v (.ref s3.heap.objs.size)) (EP X pins σ Q) X.xe { s3 with heap := s3.heap.push { cls := .type "slice", data := .fields #[vl, vu, .none] } }
 exact tail_any (ops := [.ref s3.heap.objs.size, v]) ht hT hg (by with_unfolding_all rfl)
def cutV (xs : List V) (lo hi : Option Int) : List V := (xs.drop (HT.sIx xs.length 0 lo)).take (HT.sIx xs.length xs.length hi - HT.sIx xs.length 0 lo)
theorem dH0 (xs : List V) (lo hi : Option Int) : (cutV xs lo hi).length <= xs.length := by
 unfold cutV
 rw [List.length_take, List.length_drop]
 omega
def rSlT (K : PySem.W.Frag) : V -> Option Int -> Option Int -> Hp -> VK -> Prop := fun x lo hi H Q => ∃ a xs, x = .ref a /\ SqT K H a xs /\
 ¬ (HT.sIx xs.length 0 lo = 0 /\ HT.sIx xs.length xs.length hi = xs.length) /\ ∀ p, H p = none -> Q (.ref p) (upd H p (.tup (cutV xs lo hi)))
theorem oE0 : SlR X (rSlT X.K) := by
 intro pins s σ H x v vl vu lo hi sl Q I rx hs pl pu h
 obtain ⟨a, xs, rfl, hx, hw, q⟩ := h
 cases rx
 obtain ⟨its, r, ht, hz⟩ := I.tuple hx
 have hlen : its.toArray.size = xs.length := by rw [List.size_toArray]; exact r.length.symm
 refine ⟨"tuple", _, PyProof.Rows.slot_tuple_getitem.lookup, ht.typeIs, ?_⟩
 refine HT.getItem_tuple_cut ht hs pl pu (by rw [hlen]; exact hw) ?_ (by rw [hlen]; exact hz)
 rw [hlen]
 refine ⟨.ref s.heap.objs.size, _, I.laid (t' := s.toks) (o := .tup (cutV xs lo hi)) (fun b ob q => Heap.get?_push_of_some _ q) (Nat.le_refl _) ?_, rfl, q _ (I.hok.fresh (Nat.le_refl _))⟩
 exact ⟨Nat.le_trans (dH0 xs lo hi) hz, _, (r.drop (HT.sIx xs.length 0 lo)).take (HT.sIx xs.length xs.length hi - HT.sIx xs.length 0 lo), IsTup.new _ _, _, Heap.get?_push_size _ rfl, rfl⟩
def rCatT (K : PySem.W.Frag) : R2 := fun x y H Q => ∃ a b xs ys, x = .ref a /\ y = .ref b /\ SqT K H a xs /\ SqT K H b ys /\ xs ≠ [] /\ xs.length + ys.length <= sizeLine /\
 (ys = [] -> Q (.ref a) H) /\ (ys ≠ [] -> ∀ p, H p = none -> Q (.ref p) (upd H p (.tup (xs ++ ys))))
theorem Vals.nil_iff {xs : List V} {us : List Value} (r : Vals xs us) : us = [] ↔ xs = [] := by
 cases r with
 | nil => simp
 | cons _ _ => simp
theorem iC0 : OpR X (binaryOp .Add) (rCatT X.K) := by
 intro pins s σ H x y v u Q I rx ry h
 obtain ⟨a, b, xs, ys, rfl, rfl, ha, hb, hx, hz, q1, q2⟩ := h
 cases rx
 cases ry
 obtain ⟨its, r1, p1, _⟩ := I.tuple ha
 obtain ⟨its2, r2, p2, _⟩ := I.tuple hb
 refine HT.cat_tup p1 p2 (fun z => hx (r1.nil_iff.mp z)) (fun z => ⟨.ref a, H, I, rfl, q1 (r2.nil_iff.mp z)⟩) (fun z => ?_) (by rw [<- r1.length, <- r2.length]; exact hz)
 refine ⟨.ref s.heap.objs.size, _, I.laid (t' := s.toks) (o := .tup (xs ++ ys)) (fun b ob q => Heap.get?_push_of_some _ q) (Nat.le_refl _) ?_, rfl, q2 (fun w => z (r2.nil_iff.mpr w)) _ (I.hok.fresh (Nat.le_refl _))⟩
 exact ⟨by rw [List.length_append]; exact hz, _, r1.append r2, IsTup.new _ _, _, Heap.get?_push_size _ rfl, rfl⟩
end
end L2
namespace L2
open PySem PySem.Spec PyProof.Rows
def ixN (n : Nat) (i : Int) : Option Nat := if 0 <= i then (if i < n then some i.toNat else none) else if -(n : Int) <= i then some (i + n).toNat else none
def atI {α : Type} (xs : List α) (i : Int) : Option α := (ixN xs.length i).bind fun j => xs[j]?
theorem mK0 {n : Nat} {i : Int} {j : Nat} (h : ixN n i = some j) : seqIndex? i n = some j /\ j < n /\ -(n : Int) <= i /\ i < n := by
 unfold ixN at h
 by_cases h0 : 0 <= i
 ·rw [if_pos h0] at h
  by_cases h1 : i < n
  ·rw [if_pos h1] at h
   have e : i.toNat = j := Option.some.inj h
   exact ⟨by rw [seqIndex_of h0 h1, e], by omega, by omega, h1⟩
  ·rw [if_neg h1] at h; cases h
 ·rw [if_neg h0] at h
  by_cases h1 : -(n : Int) <= i
  ·rw [if_pos h1] at h
   have e : (i + n).toNat = j := Option.some.inj h
   exact ⟨by rw [seqIndex_neg (by omega) h1, e], by omega, h1, by omega⟩
  ·rw [if_neg h1] at h; cases h
theorem ge0 {α : Type} {xs : List α} {i : Int} {v : α} (h : atI xs i = some v) : ∃ j, seqIndex? i xs.length = some j /\ xs[j]? = some v /\ j < xs.length /\ -(xs.length : Int) <= i /\ i < xs.length := by
 unfold atI at h
 cases e : ixN xs.length i with
 | none => rw [e] at h; cases h
 | some j =>
  rw [e] at h
  obtain ⟨h1, h2, h3, h4⟩ := mK0 e
  exact ⟨j, h1, h, h2, h3, h4⟩
theorem atI_nat {α : Type} {xs : List α} {j : Nat} {v : α} (h : xs[j]? = some v) : atI xs (j : Int) = some v := by
 have hj : j < xs.length := (List.getElem?_eq_some_iff.mp h).1
 have e : ixN xs.length (j : Int) = some j := by
  unfold ixN
  rw [if_pos (by omega), if_pos (by omega)]; simp
 unfold atI; rw [e]; exact h
def jH0 (b : Expr) : Prop := ∀ o i, subscripted b false o i = operate [o, i] (getItem o i)
def IxR (X : Cx) (r : R2) : Prop :=
 ∀ (value slice : Expr) (pins : List (Addr × Obj)) (s : Shared) (σ : St) (H : Hp) (x y : V) (v u : Value) (Q : VK), Inv X pins σ H s -> RelV x v -> RelV y u -> r x y H Q ->
  subscripted slice false v u = operate [v, u] (getItem v u) -> wpAny (model X.prog X.w) X.A (subscriptTail value slice v u) (EP X pins σ Q) X.xe s
def MtR (X : Cx) (id : String) (r : V -> List V -> Hp -> VK -> Prop) : Prop :=
 ∀ (pins : List (Addr × Obj)) (s : Shared) (σ : St) (H : Hp) (x : V) (xs : List V) (v : Value) (us : List Value) (Q : VK), Inv X pins σ H s -> RelV x v -> Vals xs us -> r x xs H Q ->
  wpAny (model X.prog X.w) X.A (call (.builtin id) (v :: us)) (EP X pins σ Q) X.xe s
section
variable {X : Cx} {a b : Expr} {ta tb : TE} {pos : Pos}
theorem IxR.or {r r' : R2} (h : IxR X r) (h' : IxR X r') : IxR X (fun x y H Q => r x y H Q \/ r' x y H Q) := by
 intro value slice pins s σ H x y v u Q I rx ry q hs
 rcases q with q | q
 ·exact h value slice pins s σ H x y v u Q I rx ry q hs
 ·exact h' value slice pins s σ H x y v u Q I rx ry q hs
theorem gq0 {r : R2} (hr : IxR X r) (ha : PE X a ta) (hb : PE X b tb) (hs : jH0 b) : PE X (.Subscript a b pos) (tOp r ta tb) := by
 intro pins s σ H Q I h
 exact Subscript_ (binT ha hb I h fun v u s2 x y H2 I2 rx ry q => hr a b pins s2 σ H2 x y v u Q I2 rx ry q (hs _ _))
def rIxL (K : PySem.W.Frag) : R2 := fun x y H Q => ∃ p xs i v, x = .ref p /\ y = .int i /\ SqL K H p xs /\ atI xs i = some v /\ Q v H
def rIxT (K : PySem.W.Frag) : R2 := fun x y H Q => ∃ p xs i v, x = .ref p /\ y = .int i /\ SqT K H p xs /\ atI xs i = some v /\ Q v H
def rIxS : R2 := fun x y H Q => ∃ z i c, x = .str z /\ y = .int i /\ z.length <= sizeLine /\ atI z.cps.toList i = some c /\ Q (.str ⟨#[c]⟩) H
theorem ix_list : IxR X (rIxL X.K) := by
 intro value slice pins s σ H x y v u Q I rx ry h hs
 obtain ⟨p, xs, i, z, rfl, rfl, hq, he, q⟩ := h
 cases rx
 obtain ⟨t, rfl⟩ := ry
 obtain ⟨its, r, pl, hz⟩ := I.list hq
 obtain ⟨j, h1, h2, h3, h4, h5⟩ := ge0 he
 obtain ⟨w, ew, rw'⟩ := r.get h2
 have hl := r.length
 have hn := gC0
 have fin : EP X pins σ Q w s := ⟨z, H, I, rw', q⟩
 by_cases h0 : 0 <= i
 ·have hj : i.toNat = j := by
   rw [seqIndex_of h0 h5] at h1
   exact Option.some.inj h1
  exact item_listR pl.isList h0 (by omega) (by rw [hj]; simpa using ew) fin hs
 ·have hj : (i + (its.toArray.size : Int)).toNat = j := by
   rw [seqIndex_neg (by omega) h4] at h1
   rw [List.size_toArray, <- hl]
   exact Option.some.inj h1
  exact subscriptTail_builtinR (x := w) pl.isList.typeIs slot_list_getitem.lookup
   (wpAny_getItem_list_neg (Q := fun r s' => r = w /\ EP X pins σ Q r s') pl.isList (by omega) (by rw [List.size_toArray] <;> omega) (by omega) (by rw [hj]; simpa using ew) ⟨rfl, fin⟩) hs
theorem ix_tup : IxR X (rIxT X.K) := by
 intro value slice pins s σ H x y v u Q I rx ry h hs
 obtain ⟨p, xs, i, z, rfl, rfl, hq, he, q⟩ := h
 cases rx
 obtain ⟨t, rfl⟩ := ry
 obtain ⟨its, r, pl, hz⟩ := I.tuple hq
 obtain ⟨j, h1, h2, h3, h4, h5⟩ := ge0 he
 obtain ⟨w, ew, rw'⟩ := r.get h2
 have hl := r.length
 have hn := gC0
 have fin : EP X pins σ Q w s := ⟨z, H, I, rw', q⟩
 exact subscriptTail_builtinR (x := w) pl.typeIs slot_tuple_getitem.lookup
  (getItem_tuple (j := j) (Q := fun r s' => r = w /\ EP X pins σ Q r s') pl (by omega) (by omega) (by rw [List.size_toArray, <- hl]; exact h1) (by simpa using ew) ⟨rfl, fin⟩) hs
theorem oG0 : IxR X rIxS := by
 intro value slice pins s σ H x y v u Q I rx ry h hs
 obtain ⟨z, i, c, rfl, rfl, hz, he, q⟩ := h
 obtain ⟨t, rfl⟩ := rx
 obtain ⟨t', rfl⟩ := ry
 obtain ⟨j, h1, h2, h3, h4, h5⟩ := ge0 he
 have hl : z.cps.toList.length = z.length := by simp [Str.length]
 rw [hl] at h1 h4 h5
 have hn := gC0
 exact tail_any (typeIs_str s z t) slot_str_getitem.lookup (getItem_str (c := c) (by
  have e1 : decide (i < -(2 ^ 63 : Int)) = false := decide_eq_false (by omega)
  have e2 : decide (i ≥ 2 ^ 63) = false := decide_eq_false (by omega)
  rw [e1, e2, Bool.or_false]) (by rw [h1]; simpa using h2) ⟨.str ⟨#[c]⟩, H, I.tok _, ⟨_, rfl⟩, q⟩) hs
def rIx (K : PySem.W.Frag) : R2 := fun x y H Q => rIxL K x y H Q \/ rIxT K x y H Q \/ rIxS x y H Q
theorem en0 : IxR X (rIx X.K) := ix_list.or (ix_tup.or oG0)
theorem fo0 (lo hi : Option Int) (n : Nat) : (sliceBounds lo hi none n).1 = ((HT.sIx n 0 lo : Nat) : Int) /\ (sliceBounds lo hi none n).2.1 = ((HT.sIx n n hi : Nat) : Int) /\ (sliceBounds lo hi none n).2.2 = 1 := by
 refine ⟨?_, ?_, rfl⟩
 ·cases lo with
  | none => simp [sliceBounds, HT.sIx]
  | some i =>
   simp only [sliceBounds, HT.sIx, Option.getD_none, show (1 : Int) > 0 by decide, if_true]
   by_cases h : i < 0
   ·simp only [h, if_true] <;> omega
   ·simp only [h, if_false] <;> omega
 ·cases hi with
  | none => simp [sliceBounds, HT.sIx]
  | some i =>
   simp only [sliceBounds, HT.sIx, Option.getD_none, show (1 : Int) > 0 by decide, if_true]
   by_cases h : i < 0
   ·simp only [h, if_true] <;> omega
   ·simp only [h, if_false] <;> omega
theorem eJ0 (its : List Value) (lo hi : Option Int) : slicePick its.toArray lo hi none = ((its.drop (HT.sIx its.length 0 lo)).take (HT.sIx its.length its.length hi - HT.sIx its.length 0 lo)).toArray := by
 obtain ⟨h1, h2, h3⟩ := fo0 lo hi its.toArray.size
 unfold slicePick
 rw [h1, h2, h3]
 simp only [sliceRange_one, pick_run, List.size_toArray] <;> rfl
def rSlL (K : PySem.W.Frag) : V -> Option Int -> Option Int -> Hp -> VK -> Prop := fun x lo hi H Q => ∃ a xs, x = .ref a /\ SqL K H a xs /\ ∀ p, H p = none -> Q (.ref p) (upd H p (.lst (cutV xs lo hi)))
theorem nH0 : SlR X (rSlL X.K) := by
 intro pins s σ H x v vl vu lo hi sl Q I rx hs pl pu h
 obtain ⟨a, xs, rfl, hx, q⟩ := h
 cases rx
 obtain ⟨its, r, ht, hz⟩ := I.list hx
 have hlen := r.length
 refine ⟨"list", _, slot_list_getitem.lookup, ht.isList.typeIs, ?_⟩
 refine wpAny_getItem_list_slice ht.isList hs pl pu .none (by simp) ?_ (by rw [List.size_toArray] <;> omega)
 rw [eJ0, <- hlen]
 refine ⟨.ref s.heap.objs.size, _, I.laid (t' := s.toks) (o := .lst (cutV xs lo hi)) (fun b ob q => Heap.get?_push_of_some _ q) (Nat.le_refl _) ?_, rfl, q _ (I.hok.fresh (Nat.le_refl _))⟩
 exact ⟨Nat.le_trans (dH0 xs lo hi) hz, _, 0, (r.drop (HT.sIx xs.length 0 lo)).take (HT.sIx xs.length xs.length hi - HT.sIx xs.length 0 lo), Heap.get?_push_size _ rfl⟩
def bR0 : V -> Bool
 | .non => true
 | .bl _ => true
 | .int _ => true
 | .str _ => true
 | _ => false
def eqV : V -> V -> Bool
 | .non, .non => true
 | .bl a, .bl b => a == b
 | .bl a, .int b => (if a then 1 else 0) == b
 | .int a, .bl b => a == (if b then 1 else 0)
 | .int a, .int b => a == b
 | .str a, .str b => a == b
 | _, _ => false
theorem mj0 {A : Around} {s : Shared} {y x : V} {u v : Value} (ry : RelV y u) (rx : RelV x v) (fy : bR0 y = true) (fx : bR0 x = true) : SeqAt.EqAt A s u v (eqV y x) := by
 cases y with
 | non =>
  cases ry
  cases x with
  | non => cases rx; exact SeqAt.EqAt.same _
  | bl b => cases rx; exact SeqAt.EqAt.none_bool b
  | int b => obtain ⟨t, rfl⟩ := rx; exact SeqAt.EqAt.none_int b t
  | str b => obtain ⟨t, rfl⟩ := rx; exact SeqAt.EqAt.none_str b t
  | _ => exact absurd (show false = true from fx) Bool.false_ne_true
 | bl a =>
  cases ry
  cases x with
  | non => cases rx; exact SeqAt.EqAt.bool_none a
  | bl b => cases rx; exact SeqAt.EqAt.bool_bool a b
  | int b => obtain ⟨t, rfl⟩ := rx; exact SeqAt.EqAt.bool_int a b t
  | str b => obtain ⟨t, rfl⟩ := rx; exact SeqAt.EqAt.bool_str a b t
  | _ => exact absurd (show false = true from fx) Bool.false_ne_true
 | int a =>
  obtain ⟨t', rfl⟩ := ry
  cases x with
  | non => cases rx; exact SeqAt.EqAt.int_none a t'
  | bl b => cases rx; exact SeqAt.EqAt.int_bool a t' b
  | int b => obtain ⟨t, rfl⟩ := rx; exact SeqAt.EqAt.int_int a t' b t
  | str b => obtain ⟨t, rfl⟩ := rx; exact SeqAt.EqAt.int_str a t' b t
  | _ => exact absurd (show false = true from fx) Bool.false_ne_true
 | str a =>
  obtain ⟨t', rfl⟩ := ry
  cases x with
  | non => cases rx; exact SeqAt.EqAt.str_none a t'
  | bl b => cases rx; exact SeqAt.EqAt.str_bool a t' b
  | int b => obtain ⟨t, rfl⟩ := rx; exact SeqAt.EqAt.str_int a t' b t
  | str b => obtain ⟨t, rfl⟩ := rx; exact SeqAt.EqAt.str_str a t' b t
  | _ => exact absurd (show false = true from fx) Bool.false_ne_true
 | _ => exact absurd (show false = true from fy) Bool.false_ne_true
def eqU (x : V) (u : Value) : Bool := match u with
 | .none => eqV .non x
 | .bool b => eqV (.bl b) x
 | .int i _ => eqV (.int i) x
 | .str z _ => eqV (.str z) x
 | _ => false
theorem hy0 {x y : V} {u : Value} (r : RelV y u) (f : bR0 y = true) : eqU x u = eqV y x := by
 cases y with
 | non => cases r; rfl
 | bl b => cases r; rfl
 | int i => obtain ⟨t, rfl⟩ := r; rfl
 | str z => obtain ⟨t, rfl⟩ := r; rfl
 | _ => exact absurd (show false = true from f) Bool.false_ne_true
theorem dN0 {x : V} : ∀ {xs : List V} {us : List Value}, Vals xs us -> xs.all bR0 = true -> us.any (eqU x) = xs.any fun y => eqV y x
 | _, _, .nil, _ => rfl
 | y :: xs, u :: us, .cons r t, f => by
  rw [List.all_cons, Bool.and_eq_true] at f
  rw [List.any_cons, List.any_cons, hy0 r f.1, dN0 t f.2]
theorem cd0 {A : Around} {s : Shared} {x : V} {v : Value} (rx : RelV x v) (fx : bR0 x = true) : ∀ {xs : List V} {us : List Value}, Vals xs us -> xs.all bR0 = true -> ∀ u ∈ us, SeqAt.EqAt A s u v (eqU x u)
 | _, _, .nil, _ => fun u hu => by cases hu
 | y :: xs, u :: us, .cons r t, f => fun u' hu => by
  rw [List.all_cons, Bool.and_eq_true] at f
  rcases List.mem_cons.mp hu with rfl | hu
  ·rw [hy0 r f.1]; exact mj0 r rx f.1 fx
  ·exact cd0 rx fx t f.2 u' hu
def inV (x : V) (xs : List V) : Bool := xs.any fun y => eqV y x
def rIn (K : PySem.W.Frag) (neg : Bool) : R2 := fun x y H Q => ∃ p xs, y = .ref p /\ (SqL K H p xs \/ SqT K H p xs) /\ bR0 x = true /\ xs.all bR0 = true /\ Q (.bl (if neg then !inV x xs else inV x xs)) H
theorem iP0 : OpR X (compareOp .In) (rIn X.K false) := by
 intro pins s σ H x y v u Q I rx ry h
 obtain ⟨p, xs, rfl, hq, fx, fs, q⟩ := h
 cases ry
 rcases hq with hq | hq
 ·obtain ⟨its, r, pl, hz⟩ := I.list hq
  refine SeqAt.in_listAt (eqU x) pl.isList (fun w hw => cd0 rx fx r fs w (by simpa using hw)) ⟨.bl _, H, I, rfl, ?_⟩
  rw [show its.toArray.any (eqU x) = its.any (eqU x) by simp, dN0 r fs]
  exact q
 ·obtain ⟨its, r, pl, hz⟩ := I.tuple hq
  refine SeqAt.in_tupleAt (eqU x) pl (fun w hw => cd0 rx fx r fs w (by simpa using hw)) ⟨.bl _, H, I, rfl, ?_⟩
  rw [show its.toArray.any (eqU x) = its.any (eqU x) by simp, dN0 r fs]
  exact q
theorem dt0 : OpR X (compareOp .NotIn) (rIn X.K true) := by
 intro pins s σ H x y v u Q I rx ry h
 obtain ⟨p, xs, rfl, hq, fx, fs, q⟩ := h
 cases ry
 rcases hq with hq | hq
 ·obtain ⟨its, r, pl, hz⟩ := I.list hq
  refine SeqAt.notIn_listAt (eqU x) pl.isList (fun w hw => cd0 rx fx r fs w (by simpa using hw)) ⟨.bl _, H, I, rfl, ?_⟩
  rw [show its.toArray.any (eqU x) = its.any (eqU x) by simp, dN0 r fs]
  exact q
 ·obtain ⟨its, r, pl, hz⟩ := I.tuple hq
  refine SeqAt.notIn_tupleAt (eqU x) pl (fun w hw => cd0 rx fx r fs w (by simpa using hw)) ⟨.bl _, H, I, rfl, ?_⟩
  rw [show its.toArray.any (eqU x) = its.any (eqU x) by simp, dN0 r fs]
  exact q
theorem fM0 : di0 X (.type "list") (fun xs H Q => ∃ p ys, xs = [.ref p] /\ (SqL X.K H p ys \/ SqT X.K H p ys) /\ ∀ l, H l = none -> Q (.ref l) (upd H l (.lst ys))) := by
 intro pins s σ H xs us Q I r h
 obtain ⟨p, ys, rfl, hq, q⟩ := h
 obtain ⟨u, rfl, rx⟩ := hO0 r
 cases rx
 have fin : ∀ (its : List Value), Vals ys its -> ys.length <= sizeLine -> ∀ (h' : Heap) (c' : Nat), (∀ b o', s.heap.get? b = some o' -> h'.get? b = some o') ->
   h'.get? s.heap.objs.size = some { cls := .type "list", dict := none, data := .seq its.toArray c', slots := #[] } -> EP X pins σ Q (.ref s.heap.objs.size) { s with heap := h' } := fun its r' hz h' c' kp e =>
  ⟨.ref s.heap.objs.size, _, I.laid (t' := s.toks) kp (Nat.le_refl _) (show ObjOk X.prog X.w _ h' _ (.lst ys) from ⟨hz, its, c', r', e⟩), rfl, q _ (I.hok.fresh (Nat.le_refl _))⟩
 rcases hq with hq | hq
 ·obtain ⟨its, r', pl, hz⟩ := I.list hq
  have hlen := r'.length
  obtain ⟨o, ho, hc, n, hd⟩ := pl.isList
  exact call_list_seq p (.inl rfl) ho hc hd (fun h' c' kp e => fin its r' hz h' c' kp e) (by simp only [List.size_toArray] <;> omega)
 ·obtain ⟨its, r', pl, hz⟩ := I.tuple hq
  have hlen := r'.length
  obtain ⟨o, ho, hc, n, hd⟩ := pl
  exact call_list_seq p (.inr rfl) ho hc hd (fun h' c' kp e => fin its r' hz h' c' kp e) (by simp only [List.size_toArray] <;> omega)
theorem eT0 : di0 X (.type "tuple") (fun xs H Q => ∃ p ys, xs = [.ref p] /\ ((SqL X.K H p ys /\ ∀ l, H l = none -> Q (.ref l) (upd H l (.tup ys))) \/ (SqT X.K H p ys /\ Q (.ref p) H))) := by
 intro pins s σ H xs us Q I r h
 obtain ⟨p, ys, rfl, h⟩ := h
 obtain ⟨u, rfl, rx⟩ := hO0 r
 cases rx
 rcases h with ⟨hq, q⟩ | ⟨hq, q⟩
 ·obtain ⟨its, r', pl, hz⟩ := I.list hq
  have hlen := r'.length
  refine call_tuple_list pl.isList (fun h' kp => ?_) (by simp only [List.size_toArray] <;> omega)
  have I1 : Inv X pins σ H { s with heap := h' } := I.kept (t' := s.toks) kp
  have I2 : Inv X pins σ (upd H h'.objs.size (.tup ys)) { s with heap := h'.push { cls := .type "tuple", data := .seq its.toArray } } :=
   I1.laid (t' := s.toks) (fun b o e => Heap.get?_push_of_some _ e) (Nat.le_refl _) (show ObjOk X.prog X.w _ _ _ (.tup ys) from ⟨hz, its, r', IsTup.new _ _, _, Heap.get?_push_size _ rfl, rfl⟩)
  exact ⟨.ref h'.objs.size, _, I2, rfl, q _ (I1.hok.fresh (Nat.le_refl _))⟩
 ·obtain ⟨its, r', pl, hz⟩ := I.tuple hq
  exact call_tuple_same pl ⟨.ref p, H, I, rfl, q⟩
def tyV (K : PySem.W.Frag) (T : String) (x : V) (H : Hp) : Prop := match x with
 | .str _ => T = "str"
 | .int _ => T = "int"
 | .ref p => (T = "list" /\ ∃ xs, SqL K H p xs) \/ (T = "tuple" /\ ∃ o, K.lookup p = some o /\ o.cls = .type "tuple" /\ o.dict = none) \/
   (T = "dict" /\ ((∃ kvs, H p = some (.dK kvs)) \/ ∃ kvs, H p = some (.dT kvs))) \/ (T = "set" /\ ∃ S n, H p = some (.set S n))
 | _ => False
theorem mm0 {pins : List (Addr × Obj)} {σ : St} {H : Hp} {s : Shared} {T : String} {x : V} {v : Value} (I : Inv X pins σ H s) (r : RelV x v) (ty : tyV X.K T x H) :
  s.TypeIs v T /\ ∀ a, v = .ref a -> ∃ ob, s.heap.get? a = some ob /\ ob.dict = none := by
 cases x with
 | str z =>
  obtain ⟨t, rfl⟩ := r
  cases (show T = "str" from ty)
  exact ⟨typeIs_str s z t, fun _ e => nomatch e⟩
 | int i =>
  obtain ⟨t, rfl⟩ := r
  cases (show T = "int" from ty)
  exact ⟨typeIs_int s i t, fun _ e => nomatch e⟩
 | ref p =>
  cases r
  rcases ty with ⟨rfl, xs, hq⟩ | ⟨rfl, o, hk, hc, hd⟩ | ⟨rfl, hk⟩ | ⟨rfl, S, n, hk⟩
  ·obtain ⟨its, _, pl, _⟩ := I.list hq
   refine ⟨pl.isList.typeIs, fun a e => ?_⟩
   cases e
   obtain ⟨o, n, e, c, hd, _⟩ := pl
   exact ⟨o, e, hd⟩
  ·refine ⟨⟨o, I.kIn p o hk, hc⟩, fun a e => ?_⟩
   cases e
   exact ⟨o, I.kIn _ o hk, hd⟩
  ·have z : ∃ o, s.heap.get? p = some o /\ o.ExactDict := by
    rcases hk with ⟨kvs, hk⟩ | ⟨kvs, hk⟩
    ·obtain ⟨_, _, _, _, o, _, _, e, ex, _⟩ := I.hok p _ hk
     exact ⟨o, e, ex⟩
    ·obtain ⟨_, _, _, _, o, _, _, e, ex, _⟩ := I.hok p _ hk
     exact ⟨o, e, ex⟩
   obtain ⟨o, e, ex⟩ := z
   refine ⟨⟨o, e, ex.1⟩, fun a e2 => ?_⟩
   cases e2
   exact ⟨o, e, ex.2.1⟩
  ·obtain ⟨o, _, _, _, e, ex, _⟩ := I.hok p _ hk
   refine ⟨⟨o, e, ex.1⟩, fun a e2 => ?_⟩
   cases e2
   exact ⟨o, e, ex.2.1⟩
 | _ => exact False.elim ty
def tBM0 (K : PySem.W.Frag) (T : String) (r : V -> List V -> Hp -> VK -> Prop) (to : TE) : TE := fun σ H Q => to σ H fun x H1 => tyV K T x H1 /\ r x [] H1 Q
def tBM (K : PySem.W.Frag) (T : String) (r : V -> List V -> Hp -> VK -> Prop) (to : TE) (t : TA) : TE := fun σ H Q => to σ H fun x H1 => tyV K T x H1 /\ t σ H1 fun xs H2 => r x xs H2 Q
variable {o e : Expr} {es : List Expr} {to : TE} {t : TA} {name : Str} {apos cpos : Pos} {T id : String} {r : V -> List V -> Hp -> VK -> Prop}
theorem iB0 (pa : PlainAttrs T) (slot : Slot T name id) (hty : typeOf (.builtin id) = pure (.type "method_descriptor")) (hm : MtR X id r) (ho : PE X o to)
  (hbase : attributeBase o name X.env (eval o X.env) = eval o X.env := by rfl) (hline : (apos.endLine == cpos.line) = true := by rfl) : PE X (.Call (.Attribute o name apos) [] [] cpos) (tBM0 X.K T r to) := by
 intro pins s σ H Q I h
 refine wpAny_Call_method0_late hbase hline (thn (ho pins s σ H _ I h) fun v s1 ⟨x, H1, I1, r1, ty, q1⟩ => ?_)
 obtain ⟨h1, h2⟩ := mm0 I1 r1 ty
 exact ⟨T, id, pa, slot, hty, h1, h2, Calls.callWith_builtin rfl (PySem.evalArgs_none (hm pins s1 σ H1 x [] v [] Q I1 r1 .nil q1))⟩
theorem jV0 (pa : PlainAttrs T) (slot : Slot T name id) (hty : typeOf (.builtin id) = pure (.type "method_descriptor")) (hm : MtR X id r) (ho : PE X o to) (ha : PA X (e :: es) t)
  (hbase : attributeBase o name X.env (eval o X.env) = eval o X.env := by rfl)
  (hfew : ((backTo cpos (starEach (e :: es) X.env)).all (fun x => !x.1) && (backToKw cpos (keywordEach [] X.env)).all (fun x => x.1.isSome)
   && decide ((e :: es).length + ([] : List Keyword).length + (if ([] : List Keyword).isEmpty then 0 else 1) < 30)) = true := by rfl)
  (hline : (apos.endLine == cpos.line) = true := by rfl) (hs : starEach (e :: es) X.env = (false, eval e X.env) :: starEach es X.env := by rfl) (hplain : (backTo cpos (starEach es X.env)).any (·.1) = false := by rfl) :
  PE X (.Call (.Attribute o name apos) (e :: es) [] cpos) (tBM X.K T r to t) := by
 intro pins s σ H Q I h
 refine wpAny_Call_method_late hbase hfew hline rfl (thn (ho pins s σ H _ I h) fun v s1 ⟨x, H1, I1, r1, ty, q1⟩ => ?_)
 obtain ⟨h1, h2⟩ := mm0 I1 r1 ty
 refine ⟨T, id, pa, slot, hty, h1, h2, ?_⟩
 have hA := ha cpos pins s1 σ H1 _ I1 q1
 rw [hs] at hA ⊢
 refine Calls.callWith_builtin (by show (false || (backTo cpos (starEach es X.env)).any (·.1)) = false; rw [hplain] <;> rfl) (Calls.evalArgs_plain ?_)
 exact thn hA fun us s2 ⟨vs, H2, I2, r2, q2⟩ => hm pins s2 σ H2 x vs v us Q I2 r1 r2 q2
end
end L2
namespace L2
open PySem PySem.Spec PyProof.Rows
def MtM (X : Cx) (id : String) (r : V -> List V -> Hp -> VK -> Prop) : Prop :=
 ∀ (pins : List (Addr × Obj)) (s : Shared) (σ : St) (H : Hp) (x : V) (xs : List V) (v : Value) (us : List Value) (Q : VK), Inv X pins σ H s -> RelV x v -> Vals xs us -> r x xs H Q ->
  wpAny (model X.prog X.w) X.A (call (.builtin id) (v :: us)) (EP X pins σ Q) X.xe s
theorem Vals.one : ∀ {x : V} {us : List Value}, Vals [x] us -> ∃ u, us = [u] /\ RelV x u
 | _, _, .cons r .nil => ⟨_, rfl, r⟩
theorem Vals.zero : ∀ {us : List Value}, Vals [] us -> us = []
 | _, .nil => rfl
section
variable {X : Cx} {pins : List (Addr × Obj)} {σ : St} {H : Hp} {s : Shared} {l b : Addr} {xs ys zs : List V}
theorem Inv.lset {its its' : List Value} {n : Nat} {f : Array Value -> Array Value} {t' : Nat} (I : Inv X pins σ H s) (hH : H l = some (.lst xs))
  (e : s.heap.get? l = some { cls := .type "list", data := .seq its.toArray n }) (hf : f its.toArray = its'.toArray) (hv : Vals ys its') (hz : ys.length <= sizeLine) :
  Inv X pins σ (upd H l (.lst ys)) { s with heap := s.heap.update l (Obj.mapSeq f), toks := t' } := by
 have q := PySem.IsL.update e f
 rw [hf] at q
 refine I.write (x := l) (e := l) (by rw [hH]; exact trivial) (.inl rfl) (fun b' u hb hu => (Heap.get?_update_other s.heap (Obj.mapSeq f) (Ne.symm hb)).trans hu) ⟨_, q⟩ ?_
 exact ⟨hz, its', _, hv, q⟩
theorem Inv.lnew {its : List Value} {t' : Nat} (I : Inv X pins σ H s) (hv : Vals ys its) (hz : ys.length <= sizeLine) :
  Inv X pins σ (upd H s.heap.objs.size (.lst ys)) { s with heap := s.heap.push { cls := .type "list", data := .seq its.toArray }, toks := t' } :=
 I.laid (fun _ _ q => Heap.get?_push_of_some _ q) (Nat.le_refl _) ⟨hz, its, 0, hv, Heap.get?_push_size _ rfl⟩
theorem Inv.fresh (I : Inv X pins σ H s) : H s.heap.objs.size = none := I.hok.fresh (Nat.le_refl _)
theorem Inv.lstM (I : Inv X pins σ H s) (hH : H l = some (.lst xs)) : xs.length <= sizeLine /\ ∃ (its : List Value) (n : Nat), Vals xs its /\ xs.length = its.length /\ s.heap.get? l = some { cls := .type "list", data := .seq its.toArray n } := by
 obtain ⟨z, its, n, r, e⟩ := I.hok l _ hH
 exact ⟨z, its, n, r, r.length, e⟩
theorem lN0 {n : Nat} (h : n <= sizeLine) : Builtin.List.listTooLong n = false := by
 unfold Builtin.List.listTooLong
 exact decide_eq_false (by omega)
end
section
variable {X : Cx}
def kV0 : V -> List V -> Hp -> VK -> Prop := fun x vs H Q => ∃ l xs y, x = .ref l /\ vs = [y] /\ H l = some (.lst xs) /\ xs.length < sizeLine /\ Q .non (upd H l (.lst (xs ++ [y])))
theorem ft0 : MtM X "list.append" kV0 := by
 intro pins s σ H x vs v us Q I rx rv h
 obtain ⟨l, xs, y, rfl, rfl, hH, hz, q⟩ := h
 cases rx
 obtain ⟨u, rfl, ru⟩ := rv.one
 obtain ⟨z, its, n, r, hl, e⟩ := I.lstM hH
 refine call_meets F.slot_list_append ⟨_, e, rfl⟩ F.entry_list_append (F.args_list_append_2 _ _) (PySem.list_append l its.toArray n u (by rw [List.size_toArray]; omega)) ⟨e, ?_⟩
 refine ⟨.non, _, I.lset (its' := its ++ [u]) hH e (by simp) (r.append (.cons ru .nil)) ?_, rfl, q⟩
 rw [List.length_append, List.length_singleton]
 omega
def fX0 : V -> List V -> Hp -> VK -> Prop := fun x vs H Q => ∃ l b xs zs, x = .ref l /\ vs = [.ref b] /\ H l = some (.lst xs) /\ H b = some (.lst zs) /\ xs.length + zs.length <= sizeLine /\ Q .non (upd H l (.lst (xs ++ zs)))
theorem fQ0 : MtM X "list.extend" fX0 := by
 intro pins s σ H x vs v us Q I rx rv h
 obtain ⟨l, b, xs, zs, rfl, rfl, hH, hB, hz, q⟩ := h
 cases rx
 obtain ⟨u, rfl, ru⟩ := rv.one
 cases ru
 obtain ⟨z, its, n, r, hl, e⟩ := I.lstM hH
 obtain ⟨z2, its2, n2, r2, hl2, e2⟩ := I.lstM hB
 have hsz : its.toArray.size + its2.toArray.size <= sizeLine := by rw [List.size_toArray, List.size_toArray]; omega
 have hlong : ¬ (!its.toArray.isEmpty && Builtin.List.listTooLong (its.toArray.size + its2.toArray.size)) = true := by
  rw [lN0 hsz, Bool.and_false]
  exact Bool.false_ne_true
 refine call_meets F.slot_list_extend ⟨_, e, rfl⟩ F.entry_list_extend (F.args_list_extend_2 _ _)
  (AutoSeq1.list_extend_list_list_0 l its.toArray n b its2.toArray n2 hlong (by rw [List.size_toArray]; omega) (by omega)) ⟨e, e2, ?_⟩
 refine ⟨.non, _, I.lset (its' := its ++ its2) hH e (by simp) (r.append r2) ?_, rfl, q⟩
 rw [List.length_append]
 omega
def mB0 : V -> List V -> Hp -> VK -> Prop := fun x vs H Q => ∃ l xs, x = .ref l /\ vs = [] /\ H l = some (.lst xs) /\ Q .non (upd H l (.lst []))
theorem hI0 : MtM X "list.clear" mB0 := by
 intro pins s σ H x vs v us Q I rx rv h
 obtain ⟨l, xs, rfl, rfl, hH, q⟩ := h
 cases rx
 have hus := rv.zero
 subst hus
 obtain ⟨z, its, n, r, hl, e⟩ := I.lstM hH
 refine call_meets F.slot_list_clear ⟨_, e, rfl⟩ F.entry_list_clear (F.args_list_clear_1 _) (AutoSeq1.list_clear_list_0 l its.toArray n (by rw [List.size_toArray]; omega)) ⟨e, ?_⟩
 exact ⟨.non, _, I.lset (its' := []) (ys := []) hH e rfl .nil (Nat.zero_le _), rfl, q⟩
def rCat : R2 := fun x y H Q => ∃ l b xs zs, x = .ref l /\ y = .ref b /\ H l = some (.lst xs) /\ H b = some (.lst zs) /\ xs.length + zs.length <= sizeLine /\ ∀ p, H p = none -> Q (.ref p) (upd H p (.lst (xs ++ zs)))
theorem pd0 : OpR X (binaryOp .Add) rCat := by
 intro pins s σ H x y v u Q I rx ry h
 obtain ⟨l, b, xs, zs, rfl, rfl, hH, hB, hz, q⟩ := h
 cases rx
 cases ry
 obtain ⟨z, its, n, r, hl, e⟩ := I.lstM hH
 obtain ⟨z2, its2, n2, r2, hl2, e2⟩ := I.lstM hB
 refine PySem.P.add_list e e2 ?_ (by rw [List.size_toArray, List.size_toArray]; omega)
 have ea : its.toArray ++ its2.toArray = (its ++ its2).toArray := by simp
 rw [ea]
 exact ⟨.ref _, _, I.lnew (t' := s.toks) (r.append r2) (by rw [List.length_append]; omega), rfl, q _ I.fresh⟩
end
section
variable {prog : Program} {w : World} {A : Around} {E : Value -> Shared -> Prop} {s : Shared}
set_option maxRecDepth 100000 in
end
section
variable {X : Cx}
end
end L2
namespace L2
open PySem PySem.Spec PyProof.Rows
section
variable {κ : Type} [DecidableEq κ]
def valV (kvs : List (κ × V)) (k : κ) : Option V := (kvs.find? fun kv => decide (kv.1 = k)).map (·.2)
def putK (kvs : List (κ × V)) (k : κ) (v : V) : List (κ × V) :=
 if (kvs.any fun kv => decide (kv.1 = k)) = true then kvs.map (fun kv => if kv.1 = k then (kv.1, v) else kv) else kvs ++ [(k, v)]
theorem dE0 {p : κ × V} {r : List (κ × V)} {k : κ} (e : p.1 = k) : valV (p :: r) k = some p.2 := by simp [valV, List.find?_cons, e]
theorem dB0 {p : κ × V} {r : List (κ × V)} {k : κ} (e : ¬ p.1 = k) : valV (p :: r) k = valV r k := by simp [valV, List.find?_cons, e]
theorem gR0 (k : κ) : ∀ kvs : List (κ × V), (kvs.any fun kv => decide (kv.1 = k)) = (valV kvs k).isSome
 | [] => rfl
 | p :: r => by
  rw [List.any_cons]
  by_cases e : p.1 = k
  ·simp only [dE0 e, decide_eq_true e, Bool.true_or, Option.isSome_some]
  ·rw [dB0 e, decide_eq_false e, Bool.false_or]; exact gR0 k r
theorem dY0 (kvs : List (κ × V)) (k : κ) (v : V) : (putK kvs k v).length <= kvs.length + 1 := by
 unfold putK
 split
 ·rw [List.length_map]; omega
 ·rw [List.length_append, List.length_cons, List.length_nil]; omega
theorem RelO.isSome_eq {o : Option V} {u : Option Value} (r : RelO o u) : o.isSome = u.isSome := by
 cases o with
 | none => cases u with
  | none => rfl
  | some _ => exact (show False from r).elim
 | some _ => cases u with
  | none => exact (show False from r).elim
  | some _ => rfl
theorem KV.val {kvs : List (κ × V)} {vs : List (κ × Value)} (r : KV kvs vs) (k : κ) : RelO (valV kvs k) (valueAt vs k) := by
 unfold KV at r
 induction r with
 | nil => exact True.intro
 | @cons p q ps qs h t ih =>
  obtain ⟨h1, h2⟩ := h
  by_cases e : p.1 = k
  ·have e' : q.1 = k := h1.symm.trans e
   have b : valueAt (q :: qs) k = some q.2 := by simp [valueAt, List.find?_cons, e']
   rw [dE0 e, b]; exact h2
  ·have e' : ¬ q.1 = k := fun z => e (h1.trans z)
   have b : valueAt (q :: qs) k = valueAt qs k := by simp [valueAt, List.find?_cons, e']
   rw [dB0 e, b]; exact ih
theorem KV.any {kvs : List (κ × V)} {vs : List (κ × Value)} (r : KV kvs vs) (k : κ) : (kvs.any fun kv => decide (kv.1 = k)) = vs.any fun kv => decide (kv.1 = k) := by
 unfold KV at r
 induction r with
 | nil => rfl
 | cons h t ih => rw [List.any_cons, List.any_cons, ih, h.1]
theorem KV.repl {kvs : List (κ × V)} {vs : List (κ × Value)} (r : KV kvs vs) (k : κ) {y : V} {u : Value} (ry : RelV y u) :
  KV (kvs.map fun kv => if kv.1 = k then (kv.1, y) else kv) (vs.map fun kv => if kv.1 = k then (kv.1, u) else kv) := by
 unfold KV at r ⊢
 induction r with
 | nil => exact .nil
 | @cons p q ps qs h t ih =>
  rw [List.map_cons, List.map_cons]
  refine .cons ?_ ih
  obtain ⟨h1, h2⟩ := h
  by_cases e : p.1 = k
  ·rw [if_pos e, if_pos (h1.symm.trans e)]; exact ⟨h1, ry⟩
  ·rw [if_neg e, if_neg (fun z => e (h1.trans z))]; exact ⟨h1, h2⟩
theorem KV.put {kvs : List (κ × V)} {vs : List (κ × Value)} (r : KV kvs vs) (k : κ) {y : V} {u : Value} (ry : RelV y u) : KV (putK kvs k y) (stored vs k u) := by
 unfold putK stored
 rw [r.any k]
 by_cases e : (vs.any fun kv => decide (kv.1 = k)) = true
 ·rw [if_pos e, if_pos e]; exact r.repl k ry
 ·rw [if_neg e, if_neg e]; exact Paired.snoc r ⟨rfl, ry⟩
theorem KV.length {kvs : List (κ × V)} {vs : List (κ × Value)} (r : KV kvs vs) : kvs.length = vs.length := Paired.length r
end
theorem lk0 {P : Program} {w : World} {k : Key} {u : Value} (r : RelV (kV k) u) : (aH0 P w).is k u = true := by
 cases k with
 | inl i => obtain ⟨t, e⟩ := (show ∃ t, u = Value.int i t from r); subst e; exact gf0 P w i t
 | inr x => obtain ⟨t, e⟩ := (show ∃ t, u = Value.str x t from r); subst e; exact gk0 P w x t
theorem fq0 {P : Program} {w : World} : ∀ {ks : List Key} {us : List Value}, Vals (ks.map kV) us -> ItemsAre (aH0 P w) ks us
 | [], _, r => by rw [List.map_nil] at r; cases r; exact .nil
 | k :: ks, _, r => by
  rw [List.map_cons] at r
  cases r with
  | cons h t => exact .cons (lk0 h) (fq0 t)
abbrev KT (H : Hp) : List (List Key × V) -> List (List Key × Addr × Value) -> Prop := Paired fun p q => p.1 = q.1 /\ H q.2.1 = some (.tup (p.1.map kV)) /\ RelV p.2 q.2.2
theorem KT.val {H : Hp} {kvs : List (List Key × V)} {xs : List (List Key × Addr × Value)} (r : KT H kvs xs) (k : List Key) : RelO (valV kvs k) ((atKey xs k).map (·.2)) := by
 induction r with
 | nil => exact True.intro
 | @cons p q ps qs h t ih =>
  obtain ⟨h1, _, h2⟩ := h
  by_cases e : p.1 = k
  ·have e' : q.1 = k := h1.symm.trans e
   have b : atKey (q :: qs) k = some q.2 := by simp [atKey, List.find?_cons, e']
   rw [dE0 e, b]; exact h2
  ·have e' : ¬ q.1 = k := fun z => e (h1.trans z)
   have b : atKey (q :: qs) k = atKey qs k := by simp [atKey, List.find?_cons, e']
   rw [dB0 e, b]; exact ih
theorem KT.repl {H : Hp} {kvs : List (List Key × V)} {xs : List (List Key × Addr × Value)} (r : KT H kvs xs) (k : List Key) {y : V} {u : Value} (ry : RelV y u) :
  KT H (kvs.map fun kv => if kv.1 = k then (kv.1, y) else kv) (xs.map (putAt k u)) := by
 induction r with
 | nil => exact .nil
 | @cons p q ps qs h t ih =>
  rw [List.map_cons, List.map_cons]
  refine .cons ?_ ih
  obtain ⟨h1, h2, h3⟩ := h
  unfold putAt
  by_cases e : p.1 = k
  ·rw [if_pos e, if_pos (h1.symm.trans e)]; exact ⟨h1, h2, ry⟩
  ·rw [if_neg e, if_neg (fun z => e (h1.trans z))]; exact ⟨h1, h2, h3⟩
theorem KT.put {H : Hp} {kvs : List (List Key × V)} {xs : List (List Key × Addr × Value)} (r : KT H kvs xs) (k : List Key) {b : Addr} {y : V} {u : Value} (hb : H b = some (.tup (k.map kV))) (ry : RelV y u) :
  KT H (putK kvs k y) (storedH xs k b u) := by
 have e : (kvs.any fun kv => decide (kv.1 = k)) = (atKey xs k).isSome := by
  rw [gR0, (r.val k).isSome_eq, Option.isSome_map]
 unfold putK storedH
 rw [e]
 by_cases q : (atKey xs k).isSome = true
 ·rw [if_pos q, if_pos q]; exact r.repl k ry
 ·rw [if_neg q, if_neg q]; exact Paired.snoc r ⟨rfl, hb, ry⟩
theorem KT.keeps {H H' : Hp} {kvs : List (List Key × V)} {xs : List (List Key × Addr × Value)} (r : KT H kvs xs) (ht : ∀ b ys, H b = some (.tup ys) -> H' b = some (.tup ys)) : KT H' kvs xs :=
 Paired.mapP r fun _ _ z => ⟨z.1, ht _ _ z.2.1, z.2.2⟩
section
variable {P : Program} {w : World} {H : Hp} {h : Heap} {a : Addr}
theorem rd_of {u : HO} (ok : HOk P w H h) (e : Rd H a u) : ObjOk P w H h a u := e.ok ok
theorem hR0 {kvs : List (Key × V)} (ok : HOk P w H h) (e : Rd H a (.dK kvs)) : kvs.length <= sizeLine /\ (a == sysModules) = false /\ ∃ vs, KV kvs vs /\ h.DictOf (aH0 P w) a vs :=
 show ObjOk P w H h a (.dK kvs) from rd_of ok e
theorem dk_of {kvs : List (Key × V)} (ok : HOk P w H h) (e : H a = some (.dK kvs)) : kvs.length <= sizeLine /\ (a == sysModules) = false /\ ∃ vs, KV kvs vs /\ h.DictOf (aH0 P w) a vs := hR0 ok (.inl e)
theorem jO0 {ks : List Key} (ok : HOk P w H h) (e : H a = some (.tup (ks.map kV))) : (tupleKind (aH0 P w)).is h ks a := by
 obtain ⟨_, its, r, ⟨o, h1, h2, n, h3⟩, _⟩ := (show ObjOk P w H h a (.tup (ks.map kV)) from ok a _ e)
 exact ⟨o, its.toArray, n, h1, h2, h3, by simpa using fq0 r⟩
theorem nB0 {kvs : List (List Key × V)} (ok : HOk P w H h) (e : Rd H a (.dT kvs)) : kvs.length <= sizeLine /\ (a == sysModules) = false /\
  ∃ xs, KT H kvs xs /\ h.DictOfH (tupleKind (aH0 P w)) a xs := by
 obtain ⟨z, y, xs, r, o, es, ep, h1, h2, h3, h4, h5⟩ := (show ObjOk P w H h a (.dT kvs) from rd_of ok e)
 refine ⟨z, y, xs, r, o, es, ep, h1, h2, h3, h4, fun x hx => ?_, h5⟩
 have all : ∀ {l : List (List Key × V)} {m : List (List Key × Addr × Value)}, KT H l m -> ∀ x ∈ m, (tupleKind (aH0 P w)).is h x.1 x.2.1 := by
  intro l m q
  induction q with
  | nil => intro x hx; exact nomatch hx
  | @cons p q ps qs hq t ih =>
   intro x hx
   rcases List.mem_cons.mp hx with e | hx
   ·subst e
    exact jO0 ok (by rw [<- hq.1]; exact hq.2.1)
   ·exact ih x hx
 exact all r x hx
theorem dt_of {kvs : List (List Key × V)} (ok : HOk P w H h) (e : H a = some (.dT kvs)) : kvs.length <= sizeLine /\ (a == sysModules) = false /\
  ∃ xs, KT H kvs xs /\ h.DictOfH (tupleKind (aH0 P w)) a xs := nB0 ok (.inl e)
end
def DGet (H : Hp) (a : Addr) (y : V) (r : Option V) : Prop :=
 (∃ kvs k, Rd H a (.dK kvs) /\ y = kV k /\ r = valV kvs k) \/ ∃ kvs k b, Rd H a (.dT kvs) /\ y = .ref b /\ H b = some (.tup (k.map kV)) /\ r = valV kvs k
def DPut (H : Hp) (a : Addr) (y v : V) (H' : Hp) : Prop :=
 (∃ kvs k, H a = some (.dK kvs) /\ y = kV k /\ kvs.length < sizeLine /\ H' = upd H a (.dK (putK kvs k v))) \/
 ∃ kvs k b, H a = some (.dT kvs) /\ y = .ref b /\ H b = some (.tup (k.map kV)) /\ kvs.length < sizeLine /\ H' = upd H a (.dT (putK kvs k v))
theorem DPut.k {H : Hp} {a : Addr} {kvs : List (Key × V)} {k : Key} {v : V} (e : H a = some (.dK kvs)) (hl : kvs.length < sizeLine) : DPut H a (kV k) v (upd H a (.dK (putK kvs k v))) := .inl ⟨kvs, k, e, rfl, hl, rfl⟩
section
variable {X : Cx} {pins : List (Addr × Obj)} {σ : St} {H : Hp} {s : Shared} {a : Addr} {y v : V} {u r : Value} {o : Option V} {A : Around} {E : Value -> Shared -> Prop}
theorem Inv.big (I : Inv X pins σ H s) : sysModules < s.heap.objs.size := by
 have h : mainGlobals < s.heap.objs.size := (I.mod.glob.keeps I.bk).lt
 exact Nat.lt_trans (by decide) h
theorem kx0 {Q : Value -> Shared -> Prop} (hu : A.units + 1 < cLine) (I : Inv X pins σ H s) (g : DGet H a y (some v)) (ry : RelV y u) (h : ∀ w' s', Inv X pins σ H s' -> RelV v w' -> Q w' s') :
  wpAny (model X.prog X.w) A (getItem (.ref a) u) Q E s := by
 rcases g with ⟨kvs, k, e, ey, l⟩ | ⟨kvs, k, b, e, ey, eb, l⟩
 ·subst ey
  obtain ⟨z, hd, vs, rel, dd⟩ := hR0 I.hok e
  obtain ⟨w', hw, rw'⟩ := RelO.some_of (v := v) (o := valueAt vs k) (by rw [l]; exact rel.val k)
  exact wpAny_getItem_of (lk0 ry) dd.mapOf hw (h w' _ (I.tok _) rw')
 ·subst ey
  cases (show u = Value.ref b from ry)
  obtain ⟨z, hd, xs, rel, dd⟩ := nB0 I.hok e
  obtain ⟨w', hw, rw'⟩ := RelO.some_of (v := v) (o := (atKey xs k).map (·.2)) (by rw [l]; exact rel.val k)
  obtain ⟨p, hp, hp2⟩ := Option.map_eq_some_iff.mp hw
  refine wpAny_getItem_heap (tupleKind_room_in1 hu) (jO0 I.hok eb) dd hp ?_
  rw [hp2]
  exact h w' _ (I.tok _) rw'
theorem gh0 {h' : Heap} {t' : Nat} {ob : HO} (I : Inv X pins σ H s) (mu : Mut (H a)) (hs : Heap.SameBut a s.heap h') (he : ∃ q, h'.get? a = some q) (new : ObjOk X.prog X.w (upd H a ob) h' a ob) :
  Inv X pins σ (upd H a ob) { s with heap := h', toks := t' } :=
 I.write (x := a) (e := a) mu (.inl rfl) (fun b q hb z => (hs.2 b hb).trans z) he new
theorem iW0 {P : Program} {w : World} {H' : Hp} {h' : Heap} {kvs : List (Key × V)} {vs : List (Key × Value)} (z : kvs.length <= sizeLine) (hd : (a == sysModules) = false) (rel : KV kvs vs) (dd : h'.DictOf (aH0 P w) a vs) :
  ObjOk P w H' h' a (.dK kvs) := ⟨z, hd, vs, rel, dd⟩
theorem jD0 {H' : Hp} {Q : Unit -> Shared -> Prop} (hu : A.units + 1 < cLine) (I : Inv X pins σ H s) (g : DPut H a y v H') (ry : RelV y u) (rv : RelV v r) (h : ∀ s', Inv X pins σ H' s' -> Q () s') :
  wpAny (model X.prog X.w) A (setItem (.ref a) u r) Q E s := by
 rcases g with ⟨kvs, k, e, ey, l, eH⟩ | ⟨kvs, k, b, e, ey, eb, l, eH⟩
 ·subst ey eH
  obtain ⟨z, hd, vs, rel, dd⟩ := dk_of I.hok e
  have hz : vs.length <= sizeLine := by rw [<- rel.length]; exact z
  have hl : (putK kvs k v).length <= sizeLine := by have := dY0 kvs k v; omega
  refine wpAny_setItem_pairs (hsz := hz) (lk0 ry) dd fun h' dd' hs => h _ ?_
  have he : ∃ q, h'.get? a = some q := let ⟨q, _, _, hq, _⟩ := dd'; ⟨q, hq⟩
  exact gh0 I (by rw [e]; exact True.intro) hs he (iW0 hl hd (rel.put k rv) dd')
 ·subst ey eH
  cases (show u = Value.ref b from ry)
  obtain ⟨z, hd, xs, rel, dd⟩ := dt_of I.hok e
  have hz : xs.length <= sizeLine := by rw [<- Paired.length rel]; exact z
  have hl : (putK kvs k v).length <= sizeLine := by have := dY0 kvs k v; omega
  refine wpAny_setItem_heap (hsz := hz) (tupleKind_room_in1 hu) (jO0 I.hok eb) dd fun h' dd' hs => h _ ?_
  obtain ⟨q, es, ep, hq, h2, h3, h4, _, h5⟩ := dd'
  refine gh0 I (by rw [e]; exact True.intro) hs ⟨q, hq⟩ ⟨hl, hd, _, (rel.put k eb rv).keeps fun c ys ec => ?_, q, es, ep, hq, h2, h3, h4, h5⟩
  rw [an0 (ne_of ec e (fun z => nomatch z))]
  exact ec
end
section
variable {X : Cx} {pins : List (Addr × Obj)} {σ : St} {H : Hp} {s : Shared} {a : Addr} {kvs : List (Key × V)} {k : Key} {u : Value} {A : Around} {E : Value -> Shared -> Prop}
theorem nz0 {Q : Value -> Shared -> Prop} (I : Inv X pins σ H s) (e : H a = some (.dK kvs)) (h : ∀ s', Inv X pins σ (upd H a (.dK [])) s' -> Q .none s') : wpAny (model X.prog X.w) A (call (.builtin "dict.clear") [.ref a]) Q E s := by
 obtain ⟨z, hd, vs, rel, dd⟩ := dk_of I.hok e
 refine call_meetsIn PySem.F.slot_dict_clear dd.typeIs PySem.F.entry_dict_clear (PySem.F.args_dict_clear_1 _) (meets_dict_clear (aH0 X.prog X.w) a) ⟨vs, dd, by rw [<- rel.length]; exact z, fun h' dd' hs => h _ ?_⟩
 have he : ∃ q, h'.get? a = some q := let ⟨q, _, _, hq, _⟩ := dd'; ⟨q, hq⟩
 exact gh0 (t' := s.toks) I (by rw [e]; exact True.intro) hs he (iW0 (Nat.zero_le _) hd .nil dd')
end
def NoSl (i : Expr) : Prop := ∀ ov iv, subscripted i false ov iv = operate [ov, iv] (getItem ov iv)
theorem nk0 {prog : Program} {w : World} {A : Around} {E : Value -> Shared -> Prop} {s : Shared} {env : Env} {value slice : Expr} {pos : Pos} {T id : String} {Q : Value -> Shared -> Prop}
  (hl : typeLookup (.type T) "__getitem__" = pure (some (.builtin id))) (hs : NoSl slice)
  (h : wpAny (model prog w) A (eval value env) (fun o s₁ => wpAny (model prog w) A (eval slice env) (fun i s₂ => s₂.TypeIs o T /\ wpAny (model prog w) A (getItem o i) Q E s₂) E s₁) E s) :
  wpAny (model prog w) A (eval (.Subscript value slice pos) env) Q E s := by
 refine Subscript_ (wpAny_mono h (fun o s₁ h₁ => wpAny_mono h₁ (fun i s₂ h₂ => ?_) fun _ _ x => x) fun _ _ x => x)
 obtain ⟨hT, h₂⟩ := h₂
 unfold subscriptTail
 refine wpAny_bind ?_
 rw [getitemInPython_of_ne hT.not_modules]
 refine wpAny_bind (wpAny_specialOf hT hl ?_)
 have fin : wpAny (model prog w) A (subscripted slice false o i) (fun r s₃ => wpAny (model prog w) A (letTemporaryGo value o r >>= fun _ => pure r) Q E s₃) E s₂ := by
  rw [hs o i]
  exact wpAny_operating (wpAny_mono h₂ (fun r s₃ h₃ => wpAny_bind (wpAny_letTemporaryGo (wpAny_pure h₃))) fun _ _ x => x)
 first
  | exact wpAny_pure (wpAny_bind fin)
  | exact wpAny_bind (wpAny_pure (wpAny_bind fin))
  | exact wpAny_bind fin
theorem fZ0 {X : Cx} {pins : List (Addr × Obj)} {σ : St} {H : Hp} {s : Shared} {a : Addr} {y : V} {o : Option V} (I : Inv X pins σ H s) (g : DGet H a y o) : s.TypeIs (.ref a) "dict" := by
 rcases g with ⟨kvs, k, e, _, _⟩ | ⟨kvs, k, b, e, _, _, _⟩
 ·obtain ⟨_, _, vs, _, dd⟩ := hR0 I.hok e
  exact dd.typeIs
 ·obtain ⟨_, _, xs, _, dd⟩ := nB0 I.hok e
  exact dd.typeIs
def tDGet (td ty : TE) : TE := fun σ H Q => td σ H fun x H1 => ty σ H1 fun y H2 => ∃ a v, x = .ref a /\ DGet H2 a y (some v) /\ Q v H2
def sDPut (td ty tv : TE) : TS := fun D σ H => tv σ H fun v H1 => td σ H1 fun x H2 => ty σ H2 fun y H3 => ∃ a H4, x = .ref a /\ DPut H3 a y v H4 /\ D.nx σ H4
section
variable {X : Cx} {o i e value : Expr} {pos pos' tpos : Pos} {td ty tv : TE}
theorem mI0 (hu : X.A.units + 1 < cLine) (ho : PE X o td) (hi : PE X i ty) (hs : NoSl i) : PE X (.Subscript o i pos) (tDGet td ty) := by
 intro pins s σ H Q I h
 refine nk0 PySem.F.slot_dict_getitem.lookup hs (thn (ho pins s σ H _ I h) fun u s1 ⟨x, H1, I1, rx, q1⟩ => thn (hi pins s1 σ H1 _ I1 q1) fun iv s2 ⟨y, H2, I2, ry, a, v, ex, g, q2⟩ => ?_)
 subst ex
 obtain rfl : u = Value.ref a := rx
 exact ⟨fZ0 I2 g, kx0 hu I2 g ry fun w' s3 I3 rw' => ⟨v, H2, I3, rw', q2⟩⟩
theorem nZ0 (hu : X.A.units + 1 < cLine) (ho : PE X o td) (hi : PE X i ty) (hv : PE X value tv) (hs : swapsWith value (some (.Subscript o i pos')) pos.line X.env = pure false) :
  PS X (.Assign [.Subscript o i pos'] value pos) (sDPut td ty tv) := by
 intro pins s σ H D I h
 refine wpAny_Assign_Subscript (thn (hv pins s σ H _ I h) fun r s1 ⟨v, H1, I1, rv, q1⟩ => thn (ho pins s1 σ H1 _ I1 q1) fun u s2 ⟨x, H2, I2, rx, q2⟩ => thn (hi pins s2 σ H2 _ I2 q2) fun iv s3 ⟨y, H3, I3, ry, a, H4, ex, g, q3⟩ => ?_) hs
 subst ex
 obtain rfl : u = Value.ref a := rx
 exact jD0 hu I3 g ry rv fun s4 I4 => ⟨σ, H4, I4, q3⟩
end
theorem lc0 {P : Program} {w : World} {H : Hp} (h : Heap) (hb : sysModules < h.objs.size) : ObjOk P w H (h.push { cls := .type "dict", data := .dict #[] }) h.objs.size (.dK []) :=
 ⟨Nat.zero_le _, beq_eq_false_iff_ne.mpr (Ne.symm (Nat.ne_of_lt hb)), [], .nil, Heap.DictOf.new h⟩
def oy0 : TE := fun _ H Q => ∀ p, H p = none -> Q (.ref p) (upd H p (.dK []))
section
variable {X : Cx} {pos : Pos}
theorem lp0 : PE X (.Dict [] [] pos) oy0 := fun pins s σ H Q I h =>
 wpAny_Dict_empty ⟨.ref s.heap.objs.size, _, I.laid (a := s.heap.objs.size) (o := .dK []) (t' := s.toks) (fun _ _ q => Heap.get?_push_of_some _ q) (Nat.le_refl _) (lc0 s.heap I.big), rfl, h _ (I.hok.fresh (Nat.le_refl _))⟩
end
section
variable {X : Cx} {pins : List (Addr × Obj)} {σ : St} {H : Hp} {s : Shared} {a : Addr} {y d : V} {u r : Value} {o : Option V} {A : Around} {E : Value -> Shared -> Prop}
end
section
variable {X : Cx} {o e f : Expr} {apos cpos : Pos} {td ty tx : TE}
end
section
variable {X : Cx} {pins : List (Addr × Obj)} {σ : St} {H : Hp} {s : Shared} {a : Addr} {kvs : List (Key × V)} {A : Around} {E : Value -> Shared -> Prop}
theorem lE0 {Q : Value -> Shared -> Prop} (I : Inv X pins σ H s) (e : Rd H a (.dK kvs)) (h : ∀ p s', H p = none -> Inv X pins σ (upd H p (.dK kvs)) s' -> Q (.ref p) s') : wpAny (model X.prog X.w) A (call (.type "dict") [.ref a]) Q E s := by
 obtain ⟨z, hd, vs, rel, dd⟩ := hR0 I.hok e
 refine kt_call_dict hd dd (by rw [<- rel.length]; exact z) fun h' dd' hs => ?_
 refine h _ _ (I.hok.fresh (Nat.le_refl _)) (I.laid (a := s.heap.objs.size) (o := .dK kvs) (t' := s.toks) (fun b q hq => ?_) (Nat.le_refl _) (iW0 z (beq_eq_false_iff_ne.mpr (Ne.symm (Nat.ne_of_lt I.big))) rel dd'))
 exact (hs.2 b (Nat.ne_of_lt (Heap.lt_size hq))).trans (Heap.get?_push_of_some _ hq)
end
section
variable {X : Cx} {pins : List (Addr × Obj)} {σ : St} {H : Hp} {s : Shared} {a : Addr} {y : V} {u : Value} {A : Around} {E : Value -> Shared -> Prop}
end
end L2
namespace Att
open PySem PySem.W PySem.Calls PyProof.Rows
theorem dI0 {P : Params} {h : Heap} : ∀ (ns : List Int) (vs : List Value), WellAll P h vs (ns.map WData.int) -> IntsAre vs ns := by
 intro ns
 induction ns with
 | nil =>
  intro vs w
  rw [List.map_nil] at w
  cases w
  exact .nil
 | cons n ns ih =>
  intro vs w
  rw [List.map_cons] at w
  cases w with
  | cons a b =>
   cases a
   exact .cons _ _ (ih _ b)
theorem kv0 {l : OpenLaw} {n : Nat} (hn : l.most = some n) {P : Params} {h : Heap} {args : List WData} {vals : List Value}
  (hpre : l.row.toRowW.claim.pre args = true) (hwl : WellAll P h vals args) :
  ∃ a vs ns, vals = [Value.ref a] /\ args = [WData.list (ns.map WData.int)] /\ h.get? a = some { cls := .type "list", data := .seq vs.toArray } /\ IntsAre vs ns /\ ns.length <= n := by
 have hsh : WShape.hasAll [] args [.list .int] = true := (pre_splitW hpre).1
 have hc : l.pre.holds [] { args := args } = true := (pre_splitW hpre).2
 obtain ⟨d, r, rfl, h1, h2⟩ := hasAllW_cons hsh
 obtain rfl := hasAllW_nil h2
 obtain ⟨xs, rfl, h3⟩ := hasW_list h1
 obtain ⟨ns, rfl⟩ := items_int h3
 have hlen : ns.length <= n := by
  unfold OpenLaw.pre at hc
  have h4 : (WTm.not (.lt (.lit (.int (n : Int))) (.len (.arg 0)))).holds [] { args := [.list (ns.map .int)] } = true := by
   have h4 := (holds_andW hc).1
   rw [hn] at h4
   exact h4
  have h5 := condW_of h4 (w_not (w_lt w_lit (w_len_list (w_arg rfl))))
  rw [List.length_map] at h5
  refine Nat.le_of_not_lt fun q => ?_
  have q' : (n : Int) < ((ns.length : Nat) : Int) := by omega
  first
   | (rw [decide_eq_true q'] at h5; exact absurd h5 (by decide))
   | (simp at h5; omega)
 cases hwl with
 | cons w1 w2 =>
  cases w2
  cases w1 with
  | list ho hall => exact ⟨_, _, ns, rfl, rfl, ho, dI0 ns _ hall, hlen⟩
theorem jS0 (l : OpenLaw) (args : List WData) : l.row.toRowW.claim.post args (.bool true) args = true :=
 postW_of (r := l.row.toRowW) (X := (true == true))
  (show WShape.has [] (.bool true) .bool = true by first | rfl | decide | simp [WShape.has, WShape.arms, WShape.armsAll])
  (show (WTm.eq .res (.lit (.bool true))).value [] { args := args, res := some (.bool true), after := args } = some (.bool (true == true)) from w_eq_bool (w_res rfl) w_lit) rfl
theorem attach_call {l : OpenLaw} {n : Nat} {q : Program} {loose : List Str} {XP : (Str -> Option Value) -> Heap -> Prop} {YP : World -> Heap -> Prop} {d : DefRec}
  (hn : l.most = some n) (hdf : d.params.defaults = [])
  (call : ∀ (w : World) (s₀ s₁ : Shared) (mg mb : Str -> Option Value) (fa : Addr) (o : Obj) (pm cd doc : Value) (a : Addr) (vs : List Value) (ns : List Int),
   Ground q loose [] XP w s₀ mg mb s₁.heap -> YP w s₁.heap ->
   s₁.heap.get? fa = some o -> o.data = .func (docDef d.name d.params d.body d.scope pm cd doc) -> s₁.heap.CodeRec cd d.name -> mg d.name = some (.ref fa) ->
   s₁.heap.get? a = some { cls := .type "list", data := .seq vs.toArray } -> IntsAre vs ns -> ns.length <= n -> s₁.gens = #[] ->
   codeAny (model l.prog w) callerA (.call (.ref fa) ⟨[.ref a], []⟩) (fun r s' => r = .ok (.ret (.bool true)) /\ OldK s₁.heap s'.heap /\ s'.os = s₁.os /\ AllBare s'.gens) s₁) :
  WalkO q loose XP YP l.row.toRowW d [] (fun f vs => PySem.call f vs) := by
 intro w s₀ s₁ mg mb G Y fa o pm cd doc dV kV ho hd hcd hD hmg hg args vals as hpre hlay hrd hwl hlo
 obtain rfl : dV = .none := Dflts.none hD hdf
 obtain rfl : kV = .none := Dflts.noKw hD
 obtain ⟨a, vs, ns, rfl, rfl, hobj, hints, hlen⟩ := kv0 hn hpre hwl
 refine enter_call (codeAny_mono (call w s₀ s₁ mg mb fa o pm cd doc a vs ns G Y ho (fd_plain hd) hcd hmg hobj hints hlen hg) fun r s' hq => ?_)
 obtain ⟨rfl, h2, h3, h4⟩ := hq
 exact ⟨.inl ⟨.bool true, .bool true, [], rfl, fun _ => rfl, .bool true, jS0 l _, fun _ => ⟨List.Pairwise.nil, fun _ hm => (nomatch hm)⟩⟩, h2, h3, h4⟩
section
variable {prog : Program} {w : World} {A : Around} {E : Value -> Shared -> Prop} {s : Shared} {K : Frag}
end
end Att
namespace L2
open PySem PySem.Spec PyProof.Rows
theorem fj0 : ∀ {vs : List Value} {ns : List Int}, IntsAre vs ns -> Vals (ns.map V.int) vs
 | _, _, .nil => .nil
 | _, _, .cons n t h => .cons ⟨t, rfl⟩ (fj0 h)
def Only (H : Hp) : Prop := ∀ b, H b = none \/ ∃ o xs, H b = some (.frz o (.lst xs))
theorem lM0 {P : Program} {w : World} {K : PySem.W.Frag} {mg mb : Str -> Option Value} {CX : CXT} {k : Nat} {fa a : Addr} {fd : FuncData} {x : Str} {sp : Sp} {s₁ : Shared} {vs : List Value} {ns : List Int}
  (KX : K.In s₁.heap) (hns : s₁.heap.Ns mainGlobals mg) (hb : s₁.heap.Ns builtinsNs mb) (hbb : ∀ x : Str, x ≠ "__name__" -> mb x = bootBuiltins x) (hlim : s₁.heap.NoLimit) (hg : s₁.gens = #[])
  (ha : s₁.heap.get? a = some { cls := .type "list", data := .seq vs.toArray }) (hi : IntsAre vs ns) (hl : ns.length <= sizeLine) (hr : Room k callerA)
  (F : ∀ base : Heap, K.In base -> base.Ns mainGlobals mg -> FnOk P w K mg base CX k fa fd [x] sp) (hbind : ∀ (s : Shared) (u : Value), BindsTo s fd ⟨[u], []⟩ [(x, u)])
  (hsp : ∀ H : Hp, Only H -> SqL K H a (ns.map V.int) -> sp [.ref a] H (fun v _ => v = .bl true) fun _ _ _ => False)
  (hCX : ∀ H e s', CX [] H s₁ (fun _ _ _ => False) e s' -> False) :
  codeAny (model P w) callerA (.call (.ref fa) ⟨[.ref a], []⟩) (fun r s' => r = .ok (.ret (.bool true)) /\ OldK s₁.heap s'.heap /\ s'.os = s₁.os /\ AllBare s'.gens) s₁ := by
 have rv := fj0 hi
 have lenV := hi.length
 -- from an abstract heap in which nothing but the script may be tracked
 have core : ∀ H : Hp, Only H -> SqL K H a (ns.map V.int) -> HOk P w H s₁.heap -> (∀ b, H b ≠ none -> b = a) -> (H a ≠ none -> K.lookup a = none) ->
   codeAny (model P w) callerA (.call (.ref fa) ⟨[.ref a], []⟩) (fun r s' => r = .ok (.ret (.bool true)) /\ OldK s₁.heap s'.heap /\ s'.os = s₁.os /\ AllBare s'.gens) s₁ := by
  intro H hO hS hok hA hK
  have base_of : ∀ {b : Addr} {o : Obj}, s₁.heap.get? b = some o -> H b = none -> (hidT s₁.heap H).get? b = some o := fun e n => mf0 e n
  have noA : ∀ {b : Addr} {o : Obj} {es : Array DictEntry} {ep : Nat}, s₁.heap.get? b = some o -> o.data = .dict es ep -> H b = none := fun {b o es ep} e d => by
   cases q : H b with
   | none => rfl
   | some u =>
    have e' : b = a := hA b (by rw [q]; simp)
    subst e'
    rw [ha] at e; cases e
    have d' : Data.seq vs.toArray _ = Data.dict es ep := d
    cases d'
  have nsK : ∀ {b : Addr} {m : Str -> Option Value}, s₁.heap.Ns b m -> (hidT s₁.heap H).Ns b m := fun {b m} ⟨o, es, ep, e, d, r⟩ => ⟨o, es, ep, base_of e (noA e d), d, r⟩
  have hKb : K.In (hidT s₁.heap H) := fun b o e => base_of (KX b o e) (by
   cases q : H b with
   | none => rfl
   | some u =>
    have e' : b = a := hA b (by rw [q]; simp)
    subst e'
    rw [hK (by rw [q]; simp)] at e; cases e)
  have hM : Mod K mg (hidT s₁.heap H) := ⟨hKb, nsK hns, ⟨mb, nsK hb, hbb⟩, let ⟨mc, h1, h2⟩ := hlim; ⟨mc, nsK h1, h2⟩⟩
  have e0 : Env0 P w K mg (hidT s₁.heap H) callerA [] s₁ H := ⟨rfl, hM, fun b o e => nI0 e, Nat.le_of_eq (ir0 _ _), trivial, fun b hb => absurd (show b ∈ ([] : List Addr) from hb) (by simp), hok, .of_eq hg⟩
  refine codeAny_mono ((F _ hKb (nsK hns)).run callerA [] s₁ H ⟨[.ref a], []⟩ [.ref a] [.ref a] _ _ hr e0 (hbind s₁ (.ref a)) (.cons rfl .nil) (hsp H hO hS)) fun r s' h => ?_
  cases r with
  | error e => exact (hCX H e s' h).elim
  | ok fl =>
   cases fl with
   | next => exact False.elim h
   | brk => exact False.elim h
   | cont => exact False.elim h
   | ret u =>
    obtain ⟨v, H', os, bare, un, hok', r', q⟩ := h
    have q' : v = .bl true := q
    subst q'
    obtain rfl : u = Value.bool true := r'
    refine ⟨rfl, OldK.of_keep fun b o e => ?_, os, bare⟩
    cases q : H b with
    | none => exact un.keep b o e q (by intro z; exact absurd (show b ∈ ([] : List Addr) from z) (by simp)) (by simp)
    | some u =>
     rcases hO b with z | ⟨ob, xs, z⟩
     ·rw [q] at z; cases z
     ·have z2 := un.frzs b ob _ z
      obtain ⟨e1, _⟩ := hok b _ z
      obtain ⟨e2, _⟩ := hok' b _ z2
      rw [e] at e1; cases e1
      exact e2
 cases hk : K.lookup a with
 | some o =>
  -- the script is one of the module's own objects
  have e := KX a o hk
  rw [ha] at e
  cases e
  refine core (fun _ => none) (fun _ => .inl rfl) (.inr ⟨_, vs.toArray, _, hk, rfl, rfl, rfl, by rw [List.size_toArray, lenV]; exact hl, by simpa using rv⟩) (fun b u z => by have z' : (none : Option HO) = some u := z; cases z') (fun b z => absurd rfl z) fun z => absurd rfl z
 | none =>
  refine core (fun b => if b = a then some (.frz { cls := .type "list", data := .seq vs.toArray } (.lst (ns.map V.int))) else none) (fun b => ?_) (.inl (.inr ⟨{ cls := .type "list", data := .seq vs.toArray }, if_pos rfl⟩)) (fun b u z => ?_) (fun b z => ?_) fun _ => hk
  ·by_cases hb : b = a
   ·exact .inr ⟨_, _, if_pos hb⟩
   ·exact .inl (if_neg hb)
  ·by_cases hb : b = a
   ·have z' := (if_pos hb).symm.trans z
    cases z'
    subst hb
    exact ⟨ha, by rw [List.length_map]; exact hl, vs, _, rv, ha⟩
   ·have z' := (if_neg hb).symm.trans z
    cases z'
  ·by_cases hb : b = a
   ·exact hb
   ·exact absurd (if_neg hb) z
end L2
namespace L2
open PySem PySem.Spec PyProof.Rows
theorem walk_of {l : PySem.W.OpenLaw} {n k : Nat} {q : Program} {loose : List Str} {XP : (Str -> Option Value) -> Heap -> Prop} {YP : World -> Heap -> Prop} {d : DefRec} {K : Params -> PySem.W.Frag} {CX : World -> CXT} {sp : World -> Sp} {x : Str}
  (hn : l.most = some n) (hn2 : n <= sizeLine) (hdf : d.params.defaults = []) (hr : Room k callerA)
  (hY : ∀ (w : World) (h : Heap), YP w h -> (K w.params).In h)
  (F : ∀ (w : World) (mg : Str -> Option Value) (fa : Addr) (h : Heap), (K w.params).In h -> h.Ns mainGlobals mg -> mg d.name = some (.ref fa) ->
   ∃ fd : FuncData, (∀ (s : Shared) (u : Value), BindsTo s fd ⟨[u], []⟩ [(x, u)]) /\
    ∀ base : Heap, (K w.params).In base -> base.Ns mainGlobals mg -> FnOk l.prog w (K w.params) mg base (CX w) k fa fd [x] (sp w))
  (hsp : ∀ (w : World) (H : Hp) (a : Addr) (ns : List Int), ns.length <= n -> Only H -> SqL (K w.params) H a (ns.map V.int) -> sp w [.ref a] H (fun v _ => v = .bl true) fun _ _ _ => False)
  (hCX : ∀ (w : World) (H : Hp) (s : Shared) (e : Value) (s' : Shared), CX w [] H s (fun _ _ _ => False) e s' -> False) :
  PySem.W.WalkO q loose XP YP l.row.toRowW d [] (fun f vs => PySem.call f vs) := by
 refine Att.attach_call hn hdf fun w s₀ s₁ mg mb fa o pm cd doc a vs ns G Y ho hd hcd hmg hobj hints hlen hg => ?_
 have KX := hY w _ Y
 obtain ⟨fd, hb, hF⟩ := F w mg fa _ KX G.T.g hmg
 exact lM0 KX G.T.g G.T.b G.T.builtins G.T.nolimit hg hobj hints (Nat.le_trans hlen hn2) hr hF hb (fun H hO hS => hsp w H a ns hlen hO hS) fun H e s' => hCX w H s₁ e s'
end L2
namespace L2
open PySem PySem.Spec PyProof.Rows
abbrev CX0 : CXT := fun _ _ _ _ _ _ => False
abbrev E0 : XK := fun _ _ _ => False
theorem gt0 {X : Cx} : ef0 CX0 X E0 := fun _ _ _ _ _ _ _ h => h.elim
structure Fun (K : PySem.W.Frag) (x qual : Str) (st : Stmt) (f : Addr) (fd : FuncData) : Prop where
 ex : ∃ (oc : Value) (od : Option Addr) (kV doc pm : Value) (an : Option Addr) (cdv ct : Value) (osl : Array (Option Value)),
  fd = PySem.W.fnOf x qual (cf0 st) (bt0 st) (af0 st) .none kV doc pm an cdv ct /\ K.lookup f = some ⟨oc, od, .func fd, osl⟩ /\ PySem.W.codeIn K cdv qual = true
 kp : PySem.W.keepIn K (.ref f) = true
section
variable {P : Program} {w : World} {K : PySem.W.Frag} {mg : Str -> Option Value} {base : Heap}
theorem Fun.ok {x qual : Str} {st : Stmt} {f : Addr} {fd : FuncData} {N ps : List Str} {k : Nat} {sp : Sp} (F : Fun K x qual st f fd) (S : FnScope N ps (af0 st)) (len : ∀ vs H Q E, sp vs H Q E -> vs.length = ps.length)
  (hbody : ∀ (cdv : Value) (A : Around) (outer : List Env) (s : Shared) (H : Hp) (vs : List V) (Q : VK) (E : XK), Room k (A.deeper (envOfC qual (af0 st) s.heap.objs.size f cdv)) -> sp vs H Q E ->
   ∃ t, PSs (cxOf CX0 P w K mg base N qual (af0 st) f cdv A outer s H E).nox (bt0 st) t /\ t { nx := fun _ H' => Q .non H', rt := Q } (start N vs) H) : FnOk P w K mg base CX0 (k + 1) f fd ps sp := by
 obtain ⟨oc, od, kV, doc, pm, an, cdv, ct, osl, rfl, lk, hcd⟩ := F.ex
 refine fn_of lk hcd S len fun A outer s H vs Q E hr hsp => ?_
 obtain ⟨t, h, q⟩ := hbody cdv A outer s H vs Q E hr hsp
 exact ⟨t, h.nox, q⟩
theorem Fun.binds {x qual : Str} {st : Stmt} {f : Addr} {fd : FuncData} {ps : List Str} (F : Fun K x qual st f fd)
  (h : ∀ (kV doc pm : Value) (an : Option Addr) (cdv ct : Value) (us : List Value), us.length = ps.length -> bindArgs (PySem.W.fnOf x qual (cf0 st) (bt0 st) (af0 st) .none kV doc pm an cdv ct) ⟨us, []⟩ = pure (ps.zip us)) : Binds K fd ps [] := by
 obtain ⟨oc, od, kV, doc, pm, an, cdv, ct, osl, rfl, lk, hcd⟩ := F.ex
 exact .all (h kV doc pm an cdv ct)
theorem ep0 {x qual : Str} {st : Stmt} {f : Addr} {oc : Value} {od an : Option Addr} {osl : Array (Option Value)} {kV doc pm cdv ct : Value} (l : K.lookup f = some ⟨oc, od, .func (PySem.W.fnOf x qual (cf0 st) (bt0 st) (af0 st) .none kV doc pm an cdv ct), osl⟩)
  (c : PySem.W.codeIn K cdv qual = true) (k : PySem.W.keepIn K (.ref f) = true) : Fun K x qual st f (PySem.W.fnOf x qual (cf0 st) (bt0 st) (af0 st) .none kV doc pm an cdv ct) := ⟨⟨oc, od, kV, doc, pm, an, cdv, ct, osl, rfl, l, c⟩, k⟩
end
theorem nn0 {A : Around} {k : Nat} (hr : Room k A) : A.units + 1 < cLine := Nat.lt_of_le_of_lt (Nat.add_le_add_left (by decide : 1 <= 64) _) hr.units
section
variable {X : Cx}
theorem pv (i : Nat) {x : Str} {pos : Pos} (hN : X.N[i]? = some x := by rfl) (hv : Vis X.env.scope x := by first | exact Or.inl rfl | exact Or.inr (Or.inl rfl) | exact Or.inr (Or.inr rfl)) (hd : (x == ("__debug__" : Str)) = false := by decide)
  (hcd : (x == ("__classdict__" : Str)) = false := by decide) : PE X (.Name x pos) (tVar i) := oD0 hN hv hd hcd
end
section
variable {κ : Type} [DecidableEq κ]
theorem kY0 : ∀ {l : List κ} {k : κ}, l.Nodup -> ¬ k ∈ l -> (l ++ [k]).Nodup
 | [], k, _, _ => by simp
 | a :: r, k, h, hk => by
  obtain ⟨h1, h2⟩ := List.nodup_cons.mp h
  show (a :: (r ++ [k])).Nodup
  refine List.nodup_cons.mpr ⟨fun m => ?_, kY0 h2 fun m => hk (List.mem_cons.mpr (Or.inr m))⟩
  rcases List.mem_append.mp m with q | q
  ·exact h1 q
  ·exact hk (List.mem_cons.mpr (Or.inl (List.mem_singleton.mp q).symm))
end
end L2
set_option Elab.async false
set_option linter.all false
set_option maxRecDepth 100000
set_option maxHeartbeats 4000000
namespace L2
open PySem PySem.Spec PyProof.Rows
def cm0 (env : Env) : List (Str × NameKind) -> List (Str × Addr) -> List (Str × Addr)
 | [], acc => acc
 | (n, k) :: r, acc => if k == .free then cm0 env r ((n, (env.cells.lookup n).getD 0) :: acc) else cm0 env r acc
theorem ez0 {env : Env} : ∀ (names : List (Str × NameKind)) (acc : List (Str × Addr)), (∀ x ∈ names, x.2 = .free -> ∃ c, env.cells.lookup x.1 = some c) ->
  (forIn (m := Sem) names acc fun x cs => match x with | (name, kind) => if kind == NameKind.free then (do let c <- cellOf env name; pure (ForInStep.yield ((name, c) :: cs))) else pure (ForInStep.yield cs)) = pure (cm0 env names acc)
 | [], acc, _ => rfl
 | (n, k) :: r, acc, h => by
  rw [List.forIn_cons]
  have hr := fun acc' => ez0 r acc' fun x hx => h x (List.mem_cons_of_mem _ hx)
  cases hk : (k == NameKind.free) with
  | true =>
   have hk' : k = .free := by simpa using hk
   obtain ⟨c, hc⟩ := h (n, k) List.mem_cons_self hk'
   have hc : env.cells.lookup n = some c := hc
   have e : cm0 env ((n, k) :: r) acc = cm0 env r ((n, c) :: acc) := by
    show (if (k == NameKind.free) = true then _ else _) = _
    rw [hk, if_pos rfl, hc]
    rfl
   rw [e]
   simp only [hk, if_true, cellOf, hc]
   exact hr ((n, c) :: acc)
  | false =>
   have e : cm0 env ((n, k) :: r) acc = cm0 env r acc := by
    show (if (k == NameKind.free) = true then _ else _) = _
    rw [hk, if_neg Bool.false_ne_true]
   rw [e]
   simp only [hk, Bool.false_eq_true, if_false]
   exact hr acc
theorem de0 {env : Env} {scope : Scope} (h : ∀ x ∈ scope.names, x.2 = .free -> ∃ c, env.cells.lookup x.1 = some c) : closureFor scope env = pure (cm0 env scope.names []) := by
 have e := ez0 scope.names [] h
 unfold closureFor
 have e2 : (forIn (m := Sem) scope.names ([] : List (Str × Addr)) fun x r => match x with | (name, kind) => if kind == NameKind.free then (do let c <- cellOf env name; pure (ForInStep.yield ((name, c) :: r))) else pure (ForInStep.yield r)) = pure (cm0 env scope.names []) := e
 first
  | (rw [e2]; rfl)
  | (simp only [e2]; rfl)
  | exact congrArg (fun z => z >>= fun cs => pure cs) e2
theorem eU0 {env : Env} : ∀ (names : List (Str × NameKind)) (acc : List (Str × Addr)), (∀ x ∈ names, x.2 = .free -> ∃ c, env.cells.lookup x.1 = some c) -> (∀ x c, acc.lookup x = some c -> env.cells.lookup x = some c) ->
  ∀ x c, (cm0 env names acc).lookup x = some c -> env.cells.lookup x = some c
 | [], _, _, ha, x, c, e => ha x c e
 | (n, k) :: r, acc, h, ha, x, c, e => by
  have hr : ∀ x ∈ r, x.2 = .free -> ∃ c, env.cells.lookup x.1 = some c := fun x hx => h x (List.mem_cons_of_mem _ hx)
  unfold cm0 at e
  cases hk : (k == NameKind.free) with
  | true =>
   obtain ⟨d, hd⟩ := h (n, k) List.mem_cons_self (by simpa using hk)
   have hd : env.cells.lookup n = some d := hd
   rw [hk, if_pos rfl, hd] at e
   refine eU0 r _ hr (fun y c' q => ?_) x c e
   rw [List.lookup_cons] at q
   cases hy : y == n with
   | true =>
    rw [hy] at q
    have e1 : y = n := by simpa using hy
    rw [e1, hd]
    exact q
   | false => rw [hy] at q; exact ha y c' q
  | false =>
   rw [hk, if_neg Bool.false_ne_true] at e
   exact eU0 r acc hr ha x c e
theorem gn0 {env : Env} {x : Str} : ∀ (names : List (Str × NameKind)) (acc : List (Str × Addr)), (∃ c, acc.lookup x = some c) -> ∃ c, (cm0 env names acc).lookup x = some c
 | [], _, h => h
 | (n, k) :: r, acc, h => by
  unfold cm0
  split
  ·refine gn0 r _ ?_
   rw [List.lookup_cons]
   cases hy : x == n with
   | true => exact ⟨_, rfl⟩
   | false => exact h
  ·exact gn0 r acc h
theorem eO0 {env : Env} {x : Str} : ∀ (names : List (Str × NameKind)) (acc : List (Str × Addr)), (x, NameKind.free) ∈ names -> ∃ c, (cm0 env names acc).lookup x = some c
 | [], _, h => nomatch h
 | (n, k) :: r, acc, h => by
  unfold cm0
  rcases List.mem_cons.mp h with e | h
  ·cases e
   rw [if_pos (by rfl)]
   exact gn0 r _ ⟨(env.cells.lookup x).getD 0, by rw [List.lookup_cons]; simp⟩
  ·split
   ·exact eO0 r _ h
   ·exact eO0 r _ h
def du0 (scope : Scope) (own N : List Str) (oc : Scope) : Bool :=
 scope.kind == .function && scope.names.all (fun x => x.2 != .cell) && scope.names.all (fun x => x.2 != .local || scope.names.lookup x.1 == some .local) &&
 scope.names.all (fun x => x.2 != .free || (scope.names.lookup x.1 == some .free && (oc.names.lookup x.1 == some .cell || oc.names.lookup x.1 == some .free))) &&
 scope.names.lookup Str.empty == none &&
 N.all (fun y => own.contains y || (scope.names.lookup y != some .local && scope.names.lookup y != some .cell))
def hide (own : List Str) (N : List Str) : List Str := N.map fun y => if own.contains y then Str.empty else y
structure CompOk (scope : Scope) (own N : List Str) (oc : Scope) : Prop where
 kind : scope.kind = .function
 nocell : ∀ x ∈ scope.names, x.2 ≠ .cell
 loc : ∀ x ∈ scope.names, x.2 = .local -> scope.names.lookup x.1 = some .local
 free : ∀ x ∈ scope.names, x.2 = .free -> scope.names.lookup x.1 = some .free /\ (oc.names.lookup x.1 = some .cell \/ oc.names.lookup x.1 = some .free)
 empty : scope.names.lookup Str.empty = none
 outer : ∀ y ∈ N, own.contains y = false -> scope.names.lookup y ≠ some .local /\ scope.names.lookup y ≠ some .cell
theorem fR0 {scope : Scope} {own N : List Str} {oc : Scope} (h : du0 scope own N oc = true) : CompOk scope own N oc := by
 unfold du0 at h
 simp only [Bool.and_eq_true, List.all_eq_true, Bool.or_eq_true, bne_iff_ne, ne_eq, beq_iff_eq] at h
 obtain ⟨⟨⟨⟨⟨h1, h2⟩, h3⟩, h4⟩, h5⟩, h6⟩ := h
 refine ⟨h1, fun x hx => h2 x hx, fun x hx e => ?_, fun x hx e => ?_, h5, fun y hy e => ?_⟩
 ·rcases h3 x hx with q | q
  ·exact absurd e q
  ·exact q
 ·rcases h4 x hx with q | q
  ·exact absurd e q
  ·exact q
 ·rcases h6 y hy with q | q
  ·rw [e] at q; cases q
  ·exact q
def blk (X : Cx) (N : List Str) (scope : Scope) (C : Addr) (s₂ : Shared) (H₂ : Hp) (fp : List Addr) : Cx where
 prog := X.prog
 w := X.w
 K := X.K
 mg := X.mg
 base := X.base
 A := X.A
 N := N
 s₀ := s₂
 H₀ := H₂
 env := compEnvC scope (cm0 X.env scope.names []) C X.env
 outer := X.stack
 stack := X.stack
 ex := fp
 fn := fun _ => false
 calm := X.calm
 pn := []
 xe := fun _ _ => False
theorem cD0 {scope : Scope} {env : Env} {x : Str} : ∀ (names : List (Str × NameKind)),
  (names.map fun (n, k) => if (k == NameKind.free && env.scope.kind == .function && env.kindOf n == some .cell) then (n, NameKind.cell) else (n, k)).lookup x =
   (names.lookup x).map fun k => if (k == NameKind.free && env.scope.kind == .function && env.kindOf x == some .cell) then NameKind.cell else k
 | [] => rfl
 | (n, k) :: r => by
  have ih := cD0 (scope := scope) (env := env) (x := x) r
  rw [List.map_cons]
  show List.lookup x ((if (k == NameKind.free && env.scope.kind == .function && env.kindOf n == some .cell) = true then (n, NameKind.cell) else (n, k)) :: _) = _
  cases hx : x == n with
  | true =>
   have e : x = n := by simpa using hx
   subst e
   by_cases hc : (k == NameKind.free && env.scope.kind == .function && env.kindOf x == some .cell) = true
   ·rw [if_pos hc, List.lookup_cons, List.lookup_cons, beq_self_eq_true]
    show some NameKind.cell = Option.map _ (some k)
    rw [Option.map_some, if_pos hc]
   ·rw [if_neg hc, List.lookup_cons, List.lookup_cons, beq_self_eq_true]
    show some k = Option.map _ (some k)
    rw [Option.map_some, if_neg hc]
  | false =>
   by_cases hc : (k == NameKind.free && env.scope.kind == .function && env.kindOf n == some .cell) = true
   ·rw [if_pos hc]; simp only [List.lookup_cons, hx]; exact ih
   ·rw [if_neg hc]; simp only [List.lookup_cons, hx]; exact ih
section
variable {X : Cx} {pins : List (Addr × Obj)} {σ : St} {H : Hp} {s : Shared} {scope : Scope} {own N : List Str} {fp : List Addr} {C : Addr}
theorem do0 (I : Inv X pins σ H s) (ck : CompOk scope own X.N X.env.scope) : ∀ x ∈ scope.names, x.2 = .free -> ∃ c, X.env.cells.lookup x.1 = some c := fun x hx e => by
 obtain ⟨_, h⟩ := ck.free x hx e
 exact I.ok.has x.1 h
theorem bK0 (I : Inv X pins σ H s) (ck : CompOk scope own X.N X.env.scope) {x : Str} {c : Addr} (h : (cm0 X.env scope.names []).lookup x = some c) : X.env.cells.lookup x = some c :=
 eU0 scope.names [] (do0 I ck) (fun _ _ z => nomatch z) x c h
theorem oX0 (I : Inv X pins σ H s) (ck : CompOk scope own X.N X.env.scope) (hf : ∀ b ∈ fp, FpOk X pins H b) (hC : s.heap.objs.size <= C) (hCf : ∀ b ∈ fp, b ≠ C) : (blk X N scope C s H fp).Ok where
 mod := I.ok.mod
 kind := ck.kind
 glob := I.ok.glob
 blt := I.ok.blt
 above := hC
 inj := fun x y c h1 h2 => I.ok.inj x y c (bK0 I ck h1) (bK0 I ck h2)
 has := fun x h => by
  have e : (relabel scope X.env).names.lookup x = some .cell \/ (relabel scope X.env).names.lookup x = some .free := h
  have l := cD0 (scope := scope) (env := X.env) (x := x) scope.names
  have l' : (relabel scope X.env).names.lookup x = (scope.names.lookup x).map fun k => if (k == NameKind.free && X.env.scope.kind == .function && X.env.kindOf x == some .cell) then NameKind.cell else k := l
  rw [l'] at e
  have hfree : scope.names.lookup x = some .free := by
   cases q : scope.names.lookup x with
   | none => rw [q] at e; rcases e with e | e <;> cases e
   | some k =>
    have hm : (x, k) ∈ scope.names := PySem.mem_of_lookup q
    rw [q] at e
    by_cases hk : k = .free
    ·rw [hk]
    ·have hb : (k == NameKind.free) = false := by simpa using hk
     simp only [hb, Bool.false_and, Bool.false_eq_true, if_false, Option.map_some] at e
     rcases e with e | e
     ·cases e; exact absurd rfl (ck.nocell _ hm)
     ·cases e; exact absurd rfl hk
  exact eO0 scope.names [] (PySem.mem_of_lookup hfree)
 cab := fun _ _ h _ => by cases h
 hd := I.ok.hd
 frames := I.ok.frames
 stk := .inl rfl
 exf := fun b hb => ⟨hCf b hb, fun x c h => (hf b hb).2.2.2.2.1 x c (bK0 I ck h)⟩
 bs := I.bs
 bsz := Nat.le_trans I.ok.bsz I.sz
 noex := fun b o e hb => by
  obtain ⟨_, _, _, h, _⟩ := hf b hb
  rcases h with h | h
  ·exact I.ok.noex b o e h
  ·exact absurd (Nat.lt_of_lt_of_le (Heap.lt_size e) (Nat.le_trans I.ok.bsz h)) (Nat.lt_irrefl _)
 exfs := fun b hb z => by
  obtain ⟨_, h1, h2, _⟩ := hf b hb
  rcases List.mem_cons.mp (I.stkSub b z) with e | e
  ·exact h1 e
  ·exact h2 e
 funs := I.stack
 frf := I.stkFree
theorem nF0 {h₁ : Heap} {tk : Nat} {D : Addr} {oD : Obj} (I : Inv X pins σ H s) (ck : CompOk scope own X.N X.env.scope) (hf : ∀ b ∈ fp, FpOk X pins H b) (hfo : ∀ b ∈ fp, b < s.heap.objs.size) (hC : s.heap.objs.size <= C) (hD : s.heap.objs.size <= D) (hDC : D ≠ C)
  (old : ∀ b o, s.heap.get? b = some o -> h₁.get? b = some o) (hns : h₁.Ns C fun _ => none) (hoD : h₁.get? D = some oD) (hcell : ∀ v, oD.data ≠ .cell v) :
  Inv (blk X (own ++ hide own X.N) scope C s H fp) [(D, oD)] (List.replicate own.length none ++ σ) H { s with heap := h₁, toks := tk } where
 ok := oX0 I ck hf hC fun b hb z => absurd (hfo b hb) (by rw [z]; exact Nat.not_lt.mpr hC)
 os := rfl
 bare := I.bare
 base := Un.kept old
 loc := by
  refine ⟨_, hns, fun i x v e1 e2 e3 => ?_⟩
  have e1 : (own ++ hide own X.N)[i]? = some x := e1
  have hi : ¬ i < own.length := fun hi => by
   rw [List.getElem?_append_left (by simpa using hi), List.getElem?_replicate, if_pos hi] at e2
   cases e2
  rw [List.getElem?_append_right (by simpa using hi), List.length_replicate] at e2
  rw [List.getElem?_append_right (by omega)] at e1
  unfold hide at e1
  rw [List.getElem?_map] at e1
  cases q : X.N[i - own.length]? with
  | none => rw [q] at e1; cases e1
  | some y =>
   rw [q] at e1
   have e1 : (if own.contains y = true then Str.empty else y) = x := Option.some.inj e1
   have l : (relabel scope X.env).names.lookup x = (scope.names.lookup x).map fun k => if (k == NameKind.free && X.env.scope.kind == .function && X.env.kindOf x == some .cell) then NameKind.cell else k := cD0 (scope := scope) (env := X.env) (x := x) scope.names
   have e3 : (relabel scope X.env).names.lookup x = some .local \/ (relabel scope X.env).names.lookup x = some .cell \/ (relabel scope X.env).names.lookup x = some .free := e3
   cases ho : own.contains y with
   | true =>
    rw [ho, if_pos rfl] at e1
    subst e1
    rw [l, ck.empty] at e3
    rcases e3 with e3 | e3 | e3 <;> cases e3
   | false =>
    rw [ho, if_neg Bool.false_ne_true] at e1
    subst e1
    obtain ⟨n1, n2⟩ := ck.outer y (List.mem_of_getElem? q) ho
    have hfree : scope.names.lookup y = some .free := by
     rw [l] at e3
     cases q : scope.names.lookup y with
     | none => rw [q] at e3; rcases e3 with e3 | e3 | e3 <;> cases e3
     | some k =>
      by_cases hk : k = .free
      ·rw [hk]
      ·have hb : (k == NameKind.free) = false := by simpa using hk
       rw [q] at e3
       simp only [hb, Bool.false_and, Bool.false_eq_true, if_false, Option.map_some] at e3
       rcases e3 with e3 | e3 | e3
       ·cases e3; exact absurd q n1
       ·cases e3; exact absurd q n2
       ·cases e3; exact absurd rfl hk
    obtain ⟨_, ho2⟩ := ck.free (y, .free) (PySem.mem_of_lookup hfree) rfl
    have ho2 : X.env.scope.names.lookup y = some .cell \/ X.env.scope.names.lookup y = some .free := ho2
    obtain ⟨m, hn, hl⟩ := I.loc
    obtain ⟨u, r, lk⟩ := hl (i - own.length) y v q e2 (ho2.elim (fun z => .inr (.inl z)) fun z => .inr (.inr z))
    refine ⟨u, r, .inr ⟨?_, ?_⟩⟩
    ·show (relabel scope X.env).names.lookup y = some .cell \/ (relabel scope X.env).names.lookup y = some .free
     rcases e3 with z | z | z
     ·exfalso
      rw [l, hfree] at z
      simp only [Option.map_some] at z
      split at z <;> cases z
     ·exact .inl z
     ·exact .inr z
    ·rcases lk with ⟨k, _⟩ | ⟨_, c, hc, hcell⟩
     ·have k : X.env.scope.names.lookup y = some .local := k
      rw [k] at ho2
      rcases ho2 with z | z <;> cases z
     ·obtain ⟨c', hc'⟩ := eO0 (env := X.env) scope.names [] (PySem.mem_of_lookup hfree)
      have e := bK0 I ck hc'
      rw [hc] at e
      cases e
      obtain ⟨o, ho, hd⟩ := hcell
      exact ⟨c, hc', o, old c o ho, hd⟩
 cell := fun x c h => by
  obtain ⟨v, o, ho, hd⟩ := I.cell x c (bK0 I ck h)
  exact ⟨v, o, old c o ho, hd⟩
 free := I.hok.fresh hC
 freeC := fun x c h => I.freeC x c (bK0 I ck h)
 pin := fun p hp => by
  have e : p = (D, oD) := by simpa [blk] using hp
  subst e
  refine ⟨hoD, I.hok.fresh hD, hDC, fun z => ?_, hcell⟩
  rcases List.mem_cons.mp (I.stkSub D z) with e | e
  ·exact absurd I.lt (by rw [<- e]; exact Nat.not_lt.mpr hD)
  ·exact I.nofs hD e
 hok := I.hok.kept old
 len := by
  show (List.replicate own.length none ++ σ).length = (own ++ hide own X.N).length
  unfold hide
  rw [List.length_append, List.length_append, List.length_replicate, List.length_map, I.len]
end
theorem fD0 {prog : Program} {w : World} {A : Around} {R : Result -> Shared -> Prop} {s : Shared} {elt target iter : Expr} {ifs : List Expr} {scope : Scope} {pos : Pos} {it acc : Value} {env : Env} (I : Nat -> Shared -> Prop)
  (turn : ∀ n s, I n s -> wpAny (model prog w) A (pyNext it) (fun r s₁ => match r with
   | none => R (.ok .next) s₁
   | some v => wpAny (model prog w) A (letOwnedTupleGo target it v) (fun _ s₁' => wpAny (model prog w) A (assign target env v) (fun _ s₂ =>
     wpAny (model prog w) A (forIn ifs true fun c r => if r = true then do let ok <- isTrue c env (eval c env); pure (ForInStep.yield ok) else pure (ForInStep.yield r)) (fun ok s₃ =>
      if ok = true then wpAny (model prog w) A (eval elt env) (fun x s₄ =>
       wpAny (model prog w) A (call (.builtin "list.append") [acc, x]) (fun _ s₅ => ∃ m, m < n /\ I m s₅) (fun _ _ => False) s₄) (fun _ _ => False) s₃
      else ∃ m, m < n /\ I m s₃) (fun _ _ => False) s₂) (fun _ _ => False) s₁') (fun _ _ => False) s₁) (fun _ _ => False) s)
  (n : Nat) (h : I n s) :
  codeAny (model prog w) A (.compLoop (.ListComp elt [⟨target, iter, ifs, 0⟩] scope pos) 0 it acc env) R s := by
 refine codeAny_loop rfl I (fun n s hI => ?_) n h
 show wpAny _ A ((compTurn (.ListComp elt [⟨target, iter, ifs, 0⟩] scope pos) 0 it acc env).onRaise (fun x => do noteFrame x env; theTreesLotGoes x)) _ _ s
 refine wpAny_noted ?_
 rw [compTurn_list]
 refine wpAny_bind (wpAny_standAt (wpAny_bind (wpAny_mono (turn n s hI) (fun r s₁ h₁ => ?_) fun _ _ h' => h'.elim)))
 cases r with
 | none => exact wpAny_pure h₁
 | some v =>
  refine wpAny_bind (wpAny_mono h₁ (fun _ s₁' h₁' => wpAny_bind (wpAny_mono h₁' (fun _ s₂ h₂ => wpAny_bind (wpAny_mono h₂ (fun ok s₃ h₃ => ?_) fun _ _ h' => h'.elim)) fun _ _ h' => h'.elim)) fun _ _ h' => h'.elim)
  cases ok with
  | false => exact wpAny_pure ⟨rfl, h₃⟩
  | true =>
   exact wpAny_bind (wpAny_bind (wpAny_mono h₃ (fun x s₄ h₄ => wpAny_bind (wpAny_mono h₄ (fun _ s₅ h₅ => wpAny_pure (wpAny_pure ⟨rfl, h₅⟩)) fun _ _ h' => h'.elim)) fun _ _ h' => h'.elim))
def PIf (X : Cx) (ifs : List Expr) (t : TT) : Prop :=
 ∀ (pins : List (Addr × Obj)) (s : Shared) (σ : St) (H : Hp) (Q : Bool -> Hp -> Prop), Inv X pins σ H s -> t σ H Q ->
  wpAny (model X.prog X.w) X.A (forIn ifs true fun c r => if r = true then do let ok <- isTrue c X.env (eval c X.env); pure (ForInStep.yield ok) else pure (ForInStep.yield r)) (TP X pins σ Q) X.xe s
def tTrue : TT := fun _ H Q => Q true H
theorem nP0 {X : Cx} : PIf X [] tTrue := fun pins s σ H Q I h => wpAny_tests_nil ⟨H, I, h⟩
theorem mW0 {X : Cx} {c : Expr} {t : TT} (h : PT X c t) : PIf X [c] t := fun pins s σ H Q I q => wpAny_tests_one (h pins s σ H Q I q)
def ii0 (n : Nat) (wi : TI) (g : TG) (tt : TT) (te : TE) : TE := fun σ H Q => wi σ H fun J H1 => ∃ W : Nat -> Nat -> List V -> Hp -> Prop, (∃ m, W 0 m [] H1) /\ ∀ i m ys H, W i m ys H ->
 (J.stop i H /\ ∀ p, H p = none -> Q (.ref p) (upd H p (.lst ys))) \/ (J.go i H /\ ∀ x H', J.yld i H x H' -> g x (List.replicate n none ++ σ) H' fun σ2 H2 => σ2.drop n = σ /\ tt σ2 H2 fun b H3 =>
  if b = true then te σ2 H3 fun y H4 => ys.length < sizeLine /\ ∃ m', m' < m /\ W (i + 1) m' (ys ++ [y]) H4 else ∃ m', m' < m /\ W (i + 1) m' ys H3)
theorem HOk.adopt {P : Program} {w : World} {H : Hp} {h : Heap} {a : Addr} {o : HO} (x : HOk P w H h) (hn : H a = none) (new : ObjOk P w (upd H a o) h a o) : HOk P w (upd H a o) h := fun b u e => by
 by_cases hb : b = a
 ·subst hb; rw [aq0] at e; cases e; exact new
 ·rw [an0 hb] at e
  exact (x b u e).stay (fun c v _ q => q) (fun c q => by rw [an0 (au0 q hn)]; exact q) fun c xs q => by rw [an0 (au0 q hn)]; exact q
section
variable {X : Cx} {scope : Scope} {own : List Str} {elt tg iter : Expr} {ifs : List Expr} {pos : Pos} {wi : TI} {g : TG} {tt : TT} {te : TE}
theorem gF0 {pins : List (Addr × Obj)} {σ : St} {s₂ : Shared} {Q : VK} {it : Addr} {fp : List Addr} {tn : Nat -> Heap -> Prop} {J : It} {H₂ : Hp} {RR : Value -> Addr -> Result -> Shared -> Prop} {E : Value -> Shared -> Prop} (hc : X.calm = true) (ck : CompOk scope own X.N X.env.scope)
  (hg : ∀ C s₂ H₂ fp, PG (blk X (own ++ hide own X.N) scope C s₂ H₂ fp) tg g) (ht : ∀ C s₂ H₂ fp, PIf (blk X (own ++ hide own X.N) scope C s₂ H₂ fp) ifs tt) (he : ∀ C s₂ H₂ fp, PE (blk X (own ++ hide own X.N) scope C s₂ H₂ fp) elt te)
  (I2 : Inv X pins σ H₂ s₂) (T : Turn X.prog X.w X.K tg J fp it tn) (st2 : tn 0 s₂.heap) (f2 : ∀ b ∈ fp, FpOk X pins H₂ b)
  (hw : ∃ W : Nat -> Nat -> List V -> Hp -> Prop, (∃ m, W 0 m [] H₂) /\ ∀ i m ys H, W i m ys H ->
   (J.stop i H /\ ∀ p, H p = none -> Q (.ref p) (upd H p (.lst ys))) \/ (J.go i H /\ ∀ x H', J.yld i H x H' -> g x (List.replicate own.length none ++ σ) H' fun σ2 H2 => σ2.drop own.length = σ /\ tt σ2 H2 fun b H3 =>
    if b = true then te σ2 H3 fun y H4 => ys.length < sizeLine /\ ∃ m', m' < m /\ W (i + 1) m' (ys ++ [y]) H4 else ∃ m', m' < m /\ W (i + 1) m' ys H3))
  (hRR : ∀ D C s' H' m', Inv X pins σ H' s' -> H' C = none -> s₂.heap.objs.size <= C -> s'.heap.Ns C m' -> Q (.ref D) H' -> RR (.ref D) C (.ok .next) s') :
  wpAny (model X.prog X.w) X.A (newList []) (fun acc s₃ => wpAny (model X.prog X.w) X.A (newFunctionEnv scope X.env.globals (cm0 X.env scope.names []) [] X.env.qual none .none (some X.env)) (fun cenv s₄ =>
   codeAny (model X.prog X.w) X.A (.compStart (.ListComp elt [⟨tg, iter, ifs, 0⟩] scope pos) 0 (.ref it) acc { cenv with scope := relabel scope X.env }) (RR acc cenv.locals) s₄) E s₃) E s₂ := by
 obtain ⟨W, ⟨m0, w0⟩, turn⟩ := hw
 refine wpAny_newObj_type (wpAny_newFunctionEnv ck.nocell (by intro y hy; simp at hy) (fun h₁ hns₁ hsb₁ => ?_) ck.kind)
 dsimp only at hns₁ hsb₁ ⊢
 generalize hH2 : s₂.heap.push { cls := .type "list", dict := none, data := .seq ([] : List Value).toArray } = P2 at hns₁ hsb₁ ⊢
 have hCs : P2.objs.size = s₂.heap.objs.size + 1 := by rw [<- hH2, Heap.size_push]
 have hDC : s₂.heap.objs.size ≠ P2.objs.size := by rw [hCs]; exact Nat.ne_of_lt (Nat.lt_succ_self _)
 have hCle : s₂.heap.objs.size <= P2.objs.size := by rw [hCs]; exact Nat.le_succ _
 have below : ∀ b, b < s₂.heap.objs.size -> b ≠ P2.objs.size := fun b hb => by rw [hCs]; exact Nat.ne_of_lt (Nat.lt_succ_of_lt hb)
 have old : ∀ b o, s₂.heap.get? b = some o -> h₁.get? b = some o := fun b o e => hsb₁.extBut b o (below b (Heap.lt_size e)) (Heap.get?_push_of_some _ (hH2 ▸ Heap.get?_push_of_some _ e))
 have hacc : h₁.get? s₂.heap.objs.size = some { cls := .type "list", dict := none, data := .seq ([] : List Value).toArray } := hsb₁.extBut _ _ hDC (Heap.get?_push_of_some _ (hH2 ▸ Heap.get?_push_size _ rfl))
 have hfo : ∀ b ∈ fp, b < s₂.heap.objs.size := fun b hb => by
  obtain ⟨o, e, _⟩ := T.obj _ _ st2 b hb
  exact Heap.lt_size e
 have I1 : Inv (blk X (own ++ hide own X.N) scope P2.objs.size s₂ H₂ fp) [(s₂.heap.objs.size, { cls := .type "list", dict := none, data := .seq ([] : List Value).toArray })] (List.replicate own.length none ++ σ) H₂ { s₂ with heap := h₁, toks := s₂.toks + ([] : List (Str × Value)).length } :=
  nF0 I2 ck f2 hfo hCle (Nat.le_refl _) hDC old (by simpa using hns₁) hacc (fun v z => nomatch z)
 have stat : ∀ {H' : Hp} {oD : Obj}, (∀ b ∈ fp, H' b = none) -> ∀ b ∈ fp, FpOk (blk X (own ++ hide own X.N) scope P2.objs.size s₂ H₂ fp) [(s₂.heap.objs.size, oD)] H' b := fun {H' oD} hn b hb => by
  obtain ⟨_, q1, q2, q3, q4, q5⟩ := f2 b hb
  refine ⟨hn b hb, below b (hfo b hb), fun z => ?_, .inl hb, fun x c h => q4 x c (bK0 I2 ck h), fun p hp z => ?_⟩
  ·rcases List.mem_cons.mp (I2.stkSub b z) with e | e
   ·exact q1 e
   ·exact q2 e
  ·have e : p = (s₂.heap.objs.size, oD) := by simpa [blk] using hp
   rw [e] at z
   exact absurd (hfo b hb) (by rw [<- z]; exact Nat.lt_irrefl _)
 have loop : codeAny (model X.prog X.w) X.A (.compLoop (.ListComp elt [⟨tg, iter, ifs, 0⟩] scope pos) 0 (.ref it) (.ref s₂.heap.objs.size) (compEnvC scope (cm0 X.env scope.names []) P2.objs.size X.env))
   (RR (.ref s₂.heap.objs.size) P2.objs.size) { s₂ with heap := h₁, toks := s₂.toks + ([] : List (Str × Value)).length } := by
  refine fD0 (fun n s' => ∃ i ys its k H', Inv (blk X (own ++ hide own X.N) scope P2.objs.size s₂ H₂ fp) [(s₂.heap.objs.size, { cls := .type "list", data := .seq its k })] (List.replicate own.length none ++ σ) H' s' /\ tn i s'.heap /\ (∀ b ∈ fp, H' b = none) /\ Vals ys its.toList /\ ys.length <= sizeLine /\ W i n ys H') ?_ m0
   ⟨0, [], #[], 0, H₂, I1, T.keep _ _ _ st2 (fun b _ o e => old b o e), fun b hb => (f2 b hb).1, .nil, Nat.zero_le _, w0⟩
  rintro n s3 ⟨i, ys, its, k, H3, I3, st3, fr3, rv, hz, w3⟩
  rcases turn i n ys H3 w3 with ⟨stop, q⟩ | ⟨go, step⟩
  ·refine thn (T.done (blk X (own ++ hide own X.N) scope P2.objs.size s₂ H₂ fp) rfl rfl rfl hc i _ s3 _ H3 _ I3 (stat fr3) st3 stop) fun r s4 ⟨hr, I4⟩ => ?_
   subst hr
   obtain ⟨hoD, hDn, _, hDfs, _⟩ := I4.pin (s₂.heap.objs.size, { cls := .type "list", data := .seq its k }) (by simp [blk])
   have hDn : H3 s₂.heap.objs.size = none := hDn
   obtain ⟨m', hn', _⟩ := I4.loc
   have hCn : H3 P2.objs.size = none := I4.free
   have un : Un (frs X.stack) fp H₂ (upd H3 s₂.heap.objs.size (.lst ys)) s₂.heap s4.heap := by
    have b := I4.base
    refine ⟨b.keep, b.slot, fun c o e n hx => ?_, b.there, fun c xs e => ?_, fun c o u e => ?_, fun c ps e => ?_⟩
    ·rw [an0 (Nat.ne_of_lt (Heap.lt_size e))]; exact b.free c o e n hx
    ·have q := b.tups c xs e
     rw [an0 (au0 q hDn)]; exact q
    ·have q := b.frzs c o u e
     rw [an0 (au0 q hDn)]; exact q
    ·obtain ⟨mo, q⟩ := b.tbls c ps e
     exact ⟨mo, by rw [an0 (au0 q hDn)]; exact q⟩
   have hok : HOk X.prog X.w (upd H3 s₂.heap.objs.size (.lst ys)) s4.heap := HOk.adopt I4.hok hDn ⟨hz, its.toList, k, rv, by simpa using hoD⟩
   have I5 : Inv X pins σ (upd H3 s₂.heap.objs.size (.lst ys)) s4 := I2.call' (ch := fp) I4.os un hok I4.bare fun b hb => by
    obtain ⟨_, q1, q2, q3, q4, q5⟩ := f2 b hb
    exact ⟨q3, q1, q4, q5⟩
   exact hRR _ _ s4 _ m' I5 (by rw [an0 (Ne.symm hDC)]; exact hCn) hCle hn' (q _ hDn)
  ·refine thn (T.item (blk X (own ++ hide own X.N) scope P2.objs.size s₂ H₂ fp) rfl rfl rfl hc i _ s3 _ H3 _ I3 (stat fr3) st3 go) fun r s4 ⟨u, hr, h4⟩ => ?_
   subst hr
   refine thn h4 fun _ s5 ⟨x, H5, I5, r5, y5, st5, fr5⟩ => ?_
   have I5' := I5.pinned (stat fr5) (T.obj _ _ st5)
   refine thn (hg _ _ _ _ _ s5 _ H5 x u _ I5' r5 (step x H5 y5)) fun _ s6 ⟨σ6, H6, I6, hσ, q6⟩ => ?_
   refine thn (ht _ _ _ _ _ s6 σ6 H6 _ I6 q6) fun b s7 ⟨H7, I7, q7⟩ => ?_
   have wk : ∀ {pl : List (Addr × Obj)} {H7 : Hp} {s7 : Shared}, Inv (blk X (own ++ hide own X.N) scope P2.objs.size s₂ H₂ fp) pl σ6 H7 s7 -> Inv (blk X (own ++ hide own X.N) scope P2.objs.size s₂ H₂ fp) pl (List.replicate own.length none ++ σ) H7 s7 := fun {pl H7 s7} J => by
    refine J.weak ?_ fun j v e => ?_
    ·have e1 := J.len
     have e2 := I5.len
     rw [e1, e2]
    ·have hj : ¬ j < own.length := fun hj => by
      rw [List.getElem?_append_left (by simpa using hj), List.getElem?_replicate, if_pos hj] at e
      cases e
     rw [List.getElem?_append_right (by simpa using hj), List.length_replicate, <- hσ, List.getElem?_drop] at e
     rw [<- e]
     congr 1
     omega
   have pfp : ∀ p ∈ eg0 fp s5.heap, p.1 < s₂.heap.objs.size := fun p hp => hfo _ (fy0 hp).1
   cases b with
   | false =>
    rw [if_neg Bool.false_ne_true] at q7
    rw [if_neg Bool.false_ne_true]
    obtain ⟨m', hm, w7⟩ := q7
    refine ⟨m', hm, i + 1, ys, its, k, H7, wk I7.unpinned, T.keep _ _ _ st5 fun b hb o e => (I7.pin (b, o) (List.mem_append_right _ (List.mem_append_right _ (bT0 hb e)))).1, fun b hb => ?_, rv, hz, w7⟩
    obtain ⟨o, e, d⟩ := T.obj _ _ st5 b hb
    exact (I7.pin (b, o) (List.mem_append_right _ (List.mem_append_right _ (bT0 hb e)))).2.1
   | true =>
    rw [if_pos rfl] at q7
    rw [if_pos rfl]
    refine thn (he _ _ _ _ _ s7 σ6 H7 _ I7 q7) fun u8 s8 ⟨y, H8, I8, r8, hl8, m', hm, w8⟩ => ?_
    obtain ⟨hoD, hDn, _, hDfs, _⟩ := I8.pin (s₂.heap.objs.size, { cls := .type "list", data := .seq its k }) (by simp [blk])
    have hDn : H8 s₂.heap.objs.size = none := hDn
    have hDfs : s₂.heap.objs.size ∉ frs X.stack := hDfs
    have hits : its.size = ys.length := by rw [rv.length]; simp
    refine wpAny_list_append_plain (hsz := by rw [hits]; exact hz) ⟨k, hoD⟩ fun h9 hpl hsb => ?_
    obtain ⟨k9, e9⟩ := hpl
    have I8a : Inv (blk X (own ++ hide own X.N) scope P2.objs.size s₂ H₂ fp) (eg0 fp s5.heap) σ6 H8 s8 := I8.pins_of fun p hp => I8.pin p (List.mem_append_right _ (List.mem_append_right _ hp))
    have I9 : Inv (blk X (own ++ hide own X.N) scope P2.objs.size s₂ H₂ fp) (eg0 fp s5.heap) σ6 H8 { s8 with heap := h9 } := I8a.turned (t' := s8.toks) (it := s₂.heap.objs.size) (fun b o hb e => (hsb.2 b hb).trans e) hDn hDC (.inr (Nat.le_refl _))
     (fun x c h z => by
      obtain ⟨v, o, ho, _⟩ := I2.cell x c (bK0 I2 ck h)
      exact absurd (Heap.lt_size ho) (by rw [z]; exact Nat.lt_irrefl _))
     (fun p hp z => absurd (pfp p (by simpa [blk] using hp)) (by rw [z]; exact Nat.lt_irrefl _))
    have keepfp : ∀ b ∈ fp, ∀ o, s5.heap.get? b = some o -> h9.get? b = some o := fun b hb o e => (I9.pin (b, o) (List.mem_append_right _ (bT0 hb e))).1
    have frfp : ∀ b ∈ fp, H8 b = none := fun b hb => by
     obtain ⟨o, e, d⟩ := T.obj _ _ st5 b hb
     exact (I9.pin (b, o) (List.mem_append_right _ (bT0 hb e))).2.1
    have I10 : Inv (blk X (own ++ hide own X.N) scope P2.objs.size s₂ H₂ fp) [(s₂.heap.objs.size, { cls := .type "list", data := .seq (its.push u8) k9 })] σ6 H8 { s8 with heap := h9 } := I9.pins_of fun p hp => by
     have e : p = (s₂.heap.objs.size, { cls := .type "list", data := .seq (its.push u8) k9 }) := by simpa using hp
     subst e
     exact ⟨e9, hDn, hDC, hDfs, fun v z => nomatch z⟩
    refine ⟨m', hm, i + 1, ys ++ [y], its.push u8, k9, H8, wk I10, T.keep _ _ _ st5 keepfp, frfp, ?_, ?_, w8⟩
    ·rw [Array.toList_push]
     exact Vals.append rv (.cons r8 .nil)
    ·rw [List.length_append, List.length_singleton]
     exact hl8
 exact codeAny_compStart_list loop (T.self X.A 0 _ _ _ (T.keep _ _ _ st2 fun b _ o e => old b o e) loop)
theorem od0 (hc : X.calm = true) (ck : du0 scope own X.N X.env.scope = true) (hi : PI X tg iter wi)
  (hg : ∀ C s₂ H₂ fp, PG (blk X (own ++ hide own X.N) scope C s₂ H₂ fp) tg g) (ht : ∀ C s₂ H₂ fp, PIf (blk X (own ++ hide own X.N) scope C s₂ H₂ fp) ifs tt) (he : ∀ C s₂ H₂ fp, PE (blk X (own ++ hide own X.N) scope C s₂ H₂ fp) elt te)
  (hs : ∀ x, foldedSetIterable iter X.env x = pure x := by intro _; rfl) : PE X (.ListComp elt [⟨tg, iter, ifs, 0⟩] scope pos) (ii0 own.length wi g tt te) := by
 intro pins s σ H Q I h
 have ck := fR0 ck
 rw [eval_ListComp]
 refine wpAny_comprehension_free (use := none) rfl hs (de0 (do0 I ck)) ck.kind ck.loc (thn (hi pins s σ H _ I h) fun v s1 h1 => thn h1 fun itv s2 h2 => ?_)
 obtain ⟨it, fp, tn, J, H2, e, I2, T, st2, f2, hw⟩ := h2
 subst e
 refine gF0 (RR := fun acc C => compPost (model X.prog X.w) X.A X.xe none (EP X pins σ Q) acc C) hc ck hg ht he I2 T st2 f2 hw ?_
 intro D C s' H' m' I' hCn hC hn q
 refine ⟨m', hn, fun h' hsb => ⟨.ref D, H', ?_, rfl, q⟩⟩
 refine I'.turned (t' := s'.toks) (it := C) (fun b o hb e => (hsb.2 b hb).trans e) hCn (Nat.ne_of_gt (Nat.lt_of_lt_of_le I2.lt hC)) (.inr (Nat.le_trans I2.sz hC)) (fun x c e z => ?_) fun p hp z => ?_
 ·obtain ⟨v, o, ho, _⟩ := I2.cell x c e
  exact absurd (Heap.lt_size ho) (by rw [z]; exact Nat.not_lt.mpr hC)
 ·exact absurd (Heap.lt_size (I2.pin p hp).1) (by rw [z]; exact Nat.not_lt.mpr hC)
theorem gp0 {i : Nat} {y : Str} {py spos : Pos} (hN : X.N.Nodup) (hiN : X.N[i]? = some y) (hy : Loc X.env.scope y) (hc : X.calm = true) (ck : du0 scope own X.N X.env.scope = true) (hi : PI X tg iter wi)
  (hg : ∀ C s₂ H₂ fp, PG (blk X (own ++ hide own X.N) scope C s₂ H₂ fp) tg g) (ht : ∀ C s₂ H₂ fp, PIf (blk X (own ++ hide own X.N) scope C s₂ H₂ fp) ifs tt) (he : ∀ C s₂ H₂ fp, PE (blk X (own ++ hide own X.N) scope C s₂ H₂ fp) elt te)
  (hsw : swapsWith (.ListComp elt [⟨tg, iter, ifs, 0⟩] scope pos) (some (.Name y py)) spos.line X.env = pure true)
  (hs : ∀ x, foldedSetIterable iter X.env x = pure x := by intro _; rfl) (hf : X.fn y = true \/ X.env.scope.names.lookup y = some .local := by first | exact .inl rfl | exact .inr rfl | assumption) :
  PS X (.Assign [.Name y py] (.ListComp elt [⟨tg, iter, ifs, 0⟩] scope pos) spos) (tAsg (ii0 own.length wi g tt te) (bZ0 i)) := by
 intro pins s σ H D I h
 have ck := fR0 ck
 rw [exec_Assign_Name_used _ _ _ _ hsw]
 refine wpAny_bind (wpAny_standAt (wpAny_bind ?_))
 show wpAny _ X.A (do let _ <- comprehension (.ListComp elt [⟨tg, iter, ifs, 0⟩] scope pos) scope X.env _ (newList []) false (eval iter X.env) (some (assign (.Name y py) X.env))) _ _ s
 refine wpAny_bind (wpAny_mono (wpAny_comprehension_free (use := some (assign (.Name y py) X.env)) (Q := fun _ s' => SP X pins D .next s') rfl hs (de0 (do0 I ck)) ck.kind ck.loc
  (thn (hi pins s σ H _ I h) fun v s1 h1 => thn h1 fun itv s2 h2 => ?_)) (fun _ s' hq => wpAny_pure (wpAny_pure hq)) fun _ _ e => e)
 obtain ⟨it, fp, tn, J, H2, e, I2, T, st2, f2, hw⟩ := h2
 subst e
 refine gF0 (Q := fun v H' => D.nx (σ.set i (some v)) H') (RR := fun acc C => compPost (model X.prog X.w) X.A X.xe (some (assign (.Name y py) X.env)) (fun _ s' => SP X pins D .next s') acc C) hc ck hg ht he I2 T st2 f2 hw ?_
 intro Dd C s' H' m' I' hCn hC hn q
 have neL : C ≠ X.env.locals := Nat.ne_of_gt (Nat.lt_of_lt_of_le I2.lt hC)
 have neC : ∀ x c, X.env.cells.lookup x = some c -> c ≠ C := fun x c e z => by
  obtain ⟨v, o, ho, _⟩ := I2.cell x c e
  exact absurd (Heap.lt_size ho) (by rw [z]; exact Nat.not_lt.mpr hC)
 show wpAny _ X.A (assign (.Name y py) X.env (.ref Dd)) _ _ s'
 refine wpAny_assign_Name (fh0 I' hN hiN hy (v := .ref Dd) rfl (fun s'' I'' ⟨a, hsb, ha⟩ => ?_) hf)
 refine ⟨m', hn.sameBut hsb ?_, fun h' hsb' => ⟨_, H', ?_, q⟩⟩
 ·rcases ha with e | e
  ·rw [e]; exact neL
  ·exact Ne.symm (neC y a e)
 ·refine I''.turned (t' := s''.toks) (it := C) (fun b o hb e => (hsb'.2 b hb).trans e) hCn neL (.inr (Nat.le_trans I2.sz hC)) neC fun p hp z => ?_
  exact absurd (Heap.lt_size (I2.pin p hp).1) (by rw [z]; exact Nat.not_lt.mpr hC)
end
end L2
set_option Elab.async false
set_option linter.all false
set_option maxRecDepth 100000
set_option maxHeartbeats 4000000
namespace L2.BD
open PySem PySem.Spec PyProof.Rows
inductive T where
 | non | bl (b : Bool) | int (i : Int) | str (x : Str)
 | tup (ts : List T) | lst (ts : List T) | dct (kvs : List (Str × T)) | ins (C : Addr) (fs : List (Str × T)) | exc (C : Addr) | scr (ns : List Int)
mutual
/-- v stands for the tree; the lists, dicts and instances in it are frozen (F) -/
inductive Rp (F : Addr -> Prop) (H : Hp) : V -> T -> Prop
 | non : Rp F H .non .non
 | bl (b : Bool) : Rp F H (.bl b) (.bl b)
 | int (i : Int) : Rp F H (.int i) (.int i)
 | str (x : Str) : Rp F H (.str x) (.str x)
 | tup {a : Addr} {xs : List V} {ts : List T} (h : H a = some (.tup xs)) (r : Rps F H xs ts) : Rp F H (.ref a) (.tup ts)
 | lst {a : Addr} {xs : List V} {ts : List T} (f : F a) (h : H a = some (.lst xs)) (r : Rps F H xs ts) : Rp F H (.ref a) (.lst ts)
 | dct {a : Addr} {o : Obj} {kvs : List (Key × V)} {kts : List (Str × T)} (f : F a) (h : H a = some (.frz o (.dK kvs))) (r : Rpk F H kvs kts) : Rp F H (.ref a) (.dct kts)
 | ins {a C dx : Addr} {fs : List (Str × V)} {fts : List (Str × T)} (f : F a) (h : H a = some (.ins C dx fs)) (r : Rpf F H fs fts) : Rp F H (.ref a) (.ins C fts)
 | exc {a C : Addr} {o : Obj} (f : F a) (h : H a = some (.frz o (.ext fun _ => True))) (hc : o.cls = .ref C) : Rp F H (.ref a) (.exc C)
 | scr {a : Addr} {o : Obj} {ns : List Int} (f : F a) (h : H a = some (.frz o (.lst (ns.map V.int)))) : Rp F H (.ref a) (.scr ns)
inductive Rps (F : Addr -> Prop) (H : Hp) : List V -> List T -> Prop
 | nil : Rps F H [] []
 | cons {v : V} {t : T} {vs : List V} {ts : List T} (h : Rp F H v t) (r : Rps F H vs ts) : Rps F H (v :: vs) (t :: ts)
inductive Rpk (F : Addr -> Prop) (H : Hp) : List (Key × V) -> List (Str × T) -> Prop
 | nil : Rpk F H [] []
 | cons {k : Str} {v : V} {t : T} {vs : List (Key × V)} {ts : List (Str × T)} (h : Rp F H v t) (r : Rpk F H vs ts) : Rpk F H ((Sum.inr k, v) :: vs) ((k, t) :: ts)
inductive Rpf (F : Addr -> Prop) (H : Hp) : List (Str × V) -> List (Str × T) -> Prop
 | nil : Rpf F H [] []
 | cons {k : Str} {v : V} {t : T} {vs : List (Str × V)} {ts : List (Str × T)} (h : Rp F H v t) (r : Rpf F H vs ts) : Rpf F H ((k, v) :: vs) ((k, t) :: ts)
end
structure Keep (F : Addr -> Prop) (H : Hp) (F' : Addr -> Prop) (H' : Hp) : Prop where
 sub : ∀ a, F a -> F' a
 frz : ∀ a o, F a -> H a = some o -> H' a = some o
 tup : ∀ a xs, H a = some (.tup xs) -> H' a = some (.tup xs)
theorem Keep.refl {F : Addr -> Prop} {H : Hp} : Keep F H F H := ⟨fun _ h => h, fun _ _ _ h => h, fun _ _ h => h⟩
theorem Keep.trans {F F1 F2 : Addr -> Prop} {H H1 H2 : Hp} (a : Keep F H F1 H1) (b : Keep F1 H1 F2 H2) : Keep F H F2 H2 :=
 ⟨fun x h => b.sub x (a.sub x h), fun x o f h => b.frz x o (a.sub x f) (a.frz x o f h), fun x xs h => b.tup x xs (a.tup x xs h)⟩
mutual
theorem Rp.keep {F F' : Addr -> Prop} {H H' : Hp} (k : Keep F H F' H') : ∀ {v : V} {t : T}, Rp F H v t -> Rp F' H' v t
 | _, _, .non => .non
 | _, _, .bl b => .bl b
 | _, _, .int i => .int i
 | _, _, .str x => .str x
 | _, _, .tup h r => .tup (k.tup _ _ h) (Rps.keep k r)
 | _, _, .lst f h r => .lst (k.sub _ f) (k.frz _ _ f h) (Rps.keep k r)
 | _, _, .dct f h r => .dct (k.sub _ f) (k.frz _ _ f h) (Rpk.keep k r)
 | _, _, .ins f h r => .ins (k.sub _ f) (k.frz _ _ f h) (Rpf.keep k r)
 | _, _, .exc f h c => .exc (k.sub _ f) (k.frz _ _ f h) c
 | _, _, .scr f h => .scr (k.sub _ f) (k.frz _ _ f h)
theorem Rps.keep {F F' : Addr -> Prop} {H H' : Hp} (k : Keep F H F' H') : ∀ {v : List V} {t : List T}, Rps F H v t -> Rps F' H' v t
 | _, _, .nil => .nil
 | _, _, .cons h r => .cons (Rp.keep k h) (Rps.keep k r)
theorem Rpk.keep {F F' : Addr -> Prop} {H H' : Hp} (k : Keep F H F' H') : ∀ {v : List (Key × V)} {t : List (Str × T)}, Rpk F H v t -> Rpk F' H' v t
 | _, _, .nil => .nil
 | _, _, .cons h r => .cons (Rp.keep k h) (Rpk.keep k r)
theorem Rpf.keep {F F' : Addr -> Prop} {H H' : Hp} (k : Keep F H F' H') : ∀ {v : List (Str × V)} {t : List (Str × T)}, Rpf F H v t -> Rpf F' H' v t
 | _, _, .nil => .nil
 | _, _, .cons h r => .cons (Rp.keep k h) (Rpf.keep k r)
end
inductive Rp1 (F : Addr -> Prop) (H : Hp) : Addr -> T -> Prop
 | lst {a : Addr} {xs : List V} {ts : List T} (h : H a = some (.lst xs)) (r : Rps F H xs ts) : Rp1 F H a (.lst ts)
 | dct {a : Addr} {kvs : List (Key × V)} {kts : List (Str × T)} (h : H a = some (.dK kvs)) (r : Rpk F H kvs kts) : Rp1 F H a (.dct kts)
 | ins {a C dx : Addr} {fs : List (Str × V)} {fts : List (Str × T)} (h : H a = some (.ins C dx fs)) (r : Rpf F H fs fts) : Rp1 F H a (.ins C fts)
theorem Rp1.there {F : Addr -> Prop} {H : Hp} {a : Addr} {t : T} (h : Rp1 F H a t) : ∃ o, H a = some o := by
 cases h <;> exact ⟨_, by assumption⟩
theorem Rp1.keep {F F' : Addr -> Prop} {H H' : Hp} {a : Addr} {t : T} (k : Keep F H F' H') (e : H' a = H a) (h : Rp1 F H a t) : Rp1 F' H' a t := by
 cases h with
 | lst h r => exact .lst (e.trans h) (r.keep k)
 | dct h r => exact .dct (e.trans h) (r.keep k)
 | ins h r => exact .ins (e.trans h) (r.keep k)
def isD : T -> Bool
 | .dct _ => true
 | _ => false
theorem Rp1.frozen {F : Addr -> Prop} {H : Hp} {a : Addr} {t : T} (f : F a) (h : Rp1 F H a t) (nd : isD t = false) : Rp F H (.ref a) t := by
 cases h with
 | lst h r => exact .lst f h r
 | dct h r => cases nd
 | ins h r => exact .ins f h r
inductive Rb (F : Addr -> Prop) (H : Hp) : V -> T -> Prop
 | v {v : V} {t : T} (h : Rp F H v t) : Rb F H v t
 | o {a : Addr} {t : T} (h : Rp1 F H a t) : Rb F H (.ref a) t
abbrev Rbs (F : Addr -> Prop) (H : Hp) : List V -> List T -> Prop := Paired (Rb F H)
section
variable {F : Addr -> Prop} {H : Hp} {v : V}
theorem Rb.int_ {i : Int} (h : Rb F H v (.int i)) : v = .int i := by
 cases h with
 | v h => cases h; rfl
 | o h => cases h
theorem Rb.bl_ {i : Bool} (h : Rb F H v (.bl i)) : v = .bl i := by
 cases h with
 | v h => cases h; rfl
 | o h => cases h
theorem Rb.str_ {i : Str} (h : Rb F H v (.str i)) : v = .str i := by
 cases h with
 | v h => cases h; rfl
 | o h => cases h
theorem Rb.non_ (h : Rb F H v .non) : v = .non := by
 cases h with
 | v h => cases h; rfl
 | o h => cases h
theorem Rb.tup_ {ts : List T} (h : Rb F H v (.tup ts)) : ∃ a xs, v = .ref a /\ H a = some (.tup xs) /\ Rps F H xs ts := by
 cases h with
 | v h => cases h with | tup h r => exact ⟨_, _, rfl, h, r⟩
 | o h => cases h
theorem Rb.lst_ {ts : List T} (h : Rb F H v (.lst ts)) : ∃ a xs, v = .ref a /\ H a = some (.lst xs) /\ Rps F H xs ts := by
 cases h with
 | v h => cases h with | lst f h r => exact ⟨_, _, rfl, h, r⟩
 | o h => cases h with | lst h r => exact ⟨_, _, rfl, h, r⟩
theorem Rb.scr_ {ns : List Int} (h : Rb F H v (.scr ns)) : ∃ a o, v = .ref a /\ H a = some (.frz o (.lst (ns.map V.int))) := by
 cases h with
 | v h => cases h with | scr f h => exact ⟨_, _, rfl, h⟩
 | o h => cases h
theorem Rb.dct_ {ts : List (Str × T)} (h : Rb F H v (.dct ts)) : ∃ a xs, v = .ref a /\ Rd H a (.dK xs) /\ Rpk F H xs ts := by
 cases h with
 | v h => cases h with | dct f h r => exact ⟨_, _, rfl, .inr ⟨_, h⟩, r⟩
 | o h => cases h with | dct h r => exact ⟨_, _, rfl, .inl h, r⟩
theorem Rb.ins_ {C : Addr} {ts : List (Str × T)} (h : Rb F H v (.ins C ts)) : ∃ a dx xs, v = .ref a /\ H a = some (.ins C dx xs) /\ Rpf F H xs ts := by
 cases h with
 | v h => cases h with | ins f h r => exact ⟨_, _, _, rfl, h, r⟩
 | o h => cases h with | ins h r => exact ⟨_, _, _, rfl, h, r⟩
end
section
variable {F : Addr -> Prop} {H : Hp}
theorem Rps.length : ∀ {xs : List V} {ts : List T}, Rps F H xs ts -> xs.length = ts.length
 | _, _, .nil => rfl
 | _, _, .cons _ r => by simp [Rps.length r]
theorem Rps.get : ∀ {xs : List V} {ts : List T} {i : Nat} {t : T}, Rps F H xs ts -> ts[i]? = some t -> ∃ x, xs[i]? = some x /\ Rp F H x t
 | _, _, _, _, .nil, e => by simp at e
 | _, _, 0, _, .cons h _, e => by simp at e; subst e; exact ⟨_, rfl, h⟩
 | _, _, i + 1, t, .cons _ r, e => by
  obtain ⟨x, h1, h2⟩ := Rps.get (i := i) (t := t) r (by simpa using e)
  exact ⟨x, by simpa using h1, h2⟩
theorem Rps.get' : ∀ {xs : List V} {ts : List T} {i : Nat} {x : V}, Rps F H xs ts -> xs[i]? = some x -> ∃ t, ts[i]? = some t /\ Rp F H x t
 | _, _, _, _, .nil, e => by simp at e
 | _, _, 0, _, .cons h _, e => by simp at e; subst e; exact ⟨_, rfl, h⟩
 | _, _, i + 1, x, .cons _ r, e => by
  obtain ⟨t, h1, h2⟩ := Rps.get' (i := i) (x := x) r (by simpa using e)
  exact ⟨t, by simpa using h1, h2⟩
theorem Rps.append : ∀ {xs ys : List V} {ts us : List T}, Rps F H xs ts -> Rps F H ys us -> Rps F H (xs ++ ys) (ts ++ us)
 | _, _, _, _, .nil, s => s
 | _, _, _, _, .cons h r, s => .cons h (Rps.append r s)
theorem Rps.take : ∀ {xs : List V} {ts : List T} (n : Nat), Rps F H xs ts -> Rps F H (xs.take n) (ts.take n)
 | _, _, 0, _ => .nil
 | _, _, _ + 1, .nil => .nil
 | _, _, n + 1, .cons h r => .cons h (Rps.take n r)
theorem Rps.drop : ∀ {xs : List V} {ts : List T} (n : Nat), Rps F H xs ts -> Rps F H (xs.drop n) (ts.drop n)
 | _, _, 0, r => r
 | _, _, _ + 1, .nil => .nil
 | _, _, n + 1, .cons _ r => Rps.drop n r
theorem Rps.two {xs : List V} {t u : T} (h : Rps F H xs [t, u]) : ∃ x y, xs = [x, y] /\ Rp F H x t /\ Rp F H y u := by
 cases h with | cons h r => cases r with | cons h' r => cases r; exact ⟨_, _, rfl, h, h'⟩
theorem Rbs.one {xs : List V} {t : T} (h : Rbs F H xs [t]) : ∃ x, xs = [x] /\ Rb F H x t := by
 cases h with | cons h r => cases r; exact ⟨_, rfl, h⟩
theorem Rbs.two {xs : List V} {t u : T} (h : Rbs F H xs [t, u]) : ∃ x y, xs = [x, y] /\ Rb F H x t /\ Rb F H y u := by
 cases h with | cons h r => cases r with | cons h' r => cases r; exact ⟨_, _, rfl, h, h'⟩
theorem Rpf.look : ∀ {fs : List (Str × V)} {ts : List (Str × T)} {f : Str} {t : T}, Rpf F H fs ts -> ts.lookup f = some t -> ∃ v, fs.lookup f = some v /\ Rp F H v t
 | _, _, _, _, .nil, e => by simp at e
 | _, _, f, t, .cons (k := k) h r, e => by
  rw [List.lookup_cons] at e
  rw [List.lookup_cons]
  cases q : f == k with
  | true => rw [q] at e; cases e; exact ⟨_, rfl, h⟩
  | false => rw [q] at e; exact Rpf.look r e
theorem Rpf.look_none : ∀ {fs : List (Str × V)} {ts : List (Str × T)} {f : Str}, Rpf F H fs ts -> ts.lookup f = none -> fs.lookup f = none
 | _, _, _, .nil, _ => rfl
 | _, _, f, .cons (k := k) h r, e => by
  rw [List.lookup_cons] at e
  rw [List.lookup_cons]
  cases q : f == k with
  | true => rw [q] at e; cases e
  | false => rw [q] at e; exact Rpf.look_none r e
theorem Rpf.length : ∀ {xs : List (Str × V)} {ts : List (Str × T)}, Rpf F H xs ts -> xs.length = ts.length
 | _, _, .nil => rfl
 | _, _, .cons _ r => by simp [Rpf.length r]
theorem Rpk.length : ∀ {xs : List (Key × V)} {ts : List (Str × T)}, Rpk F H xs ts -> xs.length = ts.length
 | _, _, .nil => rfl
 | _, _, .cons _ r => by simp [Rpk.length r]
end
inductive Sl where
 | un | sh (t : T) | ow (t : T) | fix (v : V) (t : T)
abbrev En := List Sl
structure Fx where
 H₀ : Hp
 F₀ : Addr -> Prop
 me : Addr -> Prop := fun _ => True
 xk : Addr -> Hp -> Prop := fun _ _ => False
def isI : T -> Bool
 | .ins _ _ => true
 | _ => false
structure Rel (Y : Fx) (F : Addr -> Prop) (ε : En) (σ : St) (H : Hp) : Prop where
 len : ε.length = σ.length
 sh : ∀ (i : Nat) t, ε[i]? = some (.sh t) -> ∃ v, σ[i]? = some (some v) /\ Rp F H v t
 ow : ∀ (i : Nat) t, ε[i]? = some (.ow t) -> ∃ a, σ[i]? = some (some (.ref a)) /\ ¬ F a /\ Y.H₀ a = none /\ Rp1 F H a t
 inj : ∀ (i j : Nat) t u a, i ≠ j -> ε[i]? = some (.ow t) -> ε[j]? = some (.ow u) -> σ[i]? = some (some (.ref a)) -> σ[j]? = some (some (.ref a)) -> False
 same : ∀ b o, Y.H₀ b = some o -> H b = some o
 sub : ∀ a, Y.F₀ a -> F a
 new : ∀ a, F a -> Y.F₀ a \/ Y.H₀ a = none
 trk : ∀ a, F a -> ∃ o, H a = some o
 me : ∀ (i : Nat) t a, ε[i]? = some (.ow t) -> isI t = true -> σ[i]? = some (some (.ref a)) -> Y.me a
 fx : ∀ (i : Nat) v t, ε[i]? = some (.fix v t) -> σ[i]? = some (some v) /\ Rp F H v t
structure Mono (F : Addr -> Prop) (H : Hp) (F' : Addr -> Prop) (H' : Hp) : Prop where
 ext : ∀ b o, H b = some o -> H' b = some o
 sub : ∀ a, F a -> F' a
 new : ∀ a, F' a -> F a \/ H a = none
 trk : ∀ a, F' a -> ∃ o, H' a = some o
theorem Mono.keep {F F' : Addr -> Prop} {H H' : Hp} (m : Mono F H F' H') : Keep F H F' H' := ⟨m.sub, fun a o _ h => m.ext a o h, fun a xs h => m.ext a _ h⟩
theorem Mono.free {F F' : Addr -> Prop} {H H' : Hp} (m : Mono F H F' H') {a : Addr} (h : H' a = none) : H a = none := by
 cases q : H a with
 | none => rfl
 | some o => rw [m.ext a o q] at h; cases h
theorem Mono.trans {F F1 F2 : Addr -> Prop} {H H1 H2 : Hp} (a : Mono F H F1 H1) (b : Mono F1 H1 F2 H2) : Mono F H F2 H2 :=
 ⟨fun x o h => b.ext x o (a.ext x o h), fun x h => b.sub x (a.sub x h), fun x h => (b.new x h).elim (a.new x) fun z => .inr (a.free z), b.trk⟩
theorem Mono.refl {F : Addr -> Prop} {H : Hp} (t : ∀ a, F a -> ∃ o, H a = some o) : Mono F H F H := ⟨fun _ _ h => h, fun _ h => h, fun _ h => .inl h, t⟩
theorem Rel.refl {Y : Fx} {F : Addr -> Prop} {ε : En} {σ : St} {H : Hp} (r : Rel Y F ε σ H) : Mono F H F H := .refl r.trk
theorem Mono.laid {F : Addr -> Prop} {H : Hp} {p : Addr} {o : HO} (t : ∀ a, F a -> ∃ o, H a = some o) (hp : H p = none) : Mono F H F (upd H p o) := by
 have e : ∀ b u, H b = some u -> upd H p o b = some u := fun b u h => by rw [an0 (au0 h hp)]; exact h
 exact ⟨e, fun _ h => h, fun _ h => .inl h, fun a h => let ⟨u, q⟩ := t a h; ⟨u, e a u q⟩⟩
theorem Mono.freeze {F F' : Addr -> Prop} {H H' : Hp} {a : Addr} (m : Mono F H F' H') (n : H a = none) (t : ∃ o, H' a = some o) : Mono F H (fun b => F' b \/ b = a) H' :=
 ⟨m.ext, fun x h => .inl (m.sub x h), fun x h => h.elim (m.new x) fun e => .inr (e ▸ n), fun x h => h.elim (m.trk x) fun e => e ▸ t⟩
theorem Keep.freeze {F : Addr -> Prop} {H : Hp} {a : Addr} : Keep F H (fun b => F b \/ b = a) H := ⟨fun _ h => .inl h, fun _ _ _ h => h, fun _ _ h => h⟩
theorem Rb.keep {F F' : Addr -> Prop} {H H' : Hp} (m : Mono F H F' H') {v : V} {t : T} (h : Rb F H v t) : Rb F' H' v t := by
 cases h with
 | v h => exact .v (h.keep m.keep)
 | o h =>
  obtain ⟨o, q⟩ := h.there
  exact .o (h.keep m.keep ((m.ext _ o q).trans q.symm))
theorem Rel.mono {Y : Fx} {F F' : Addr -> Prop} {ε : En} {σ : St} {H H' : Hp} (r : Rel Y F ε σ H) (m : Mono F H F' H') : Rel Y F' ε σ H' where
 len := r.len
 sh := fun i t e => let ⟨v, h1, h2⟩ := r.sh i t e; ⟨v, h1, h2.keep m.keep⟩
 ow := fun i t e => by
  obtain ⟨a, h1, h2, h3, h4⟩ := r.ow i t e
  obtain ⟨o, q⟩ := h4.there
  refine ⟨a, h1, fun z => ?_, h3, h4.keep m.keep ((m.ext _ o q).trans q.symm)⟩
  rcases m.new a z with z | z
  ·exact h2 z
  ·rw [z] at q; cases q
 inj := r.inj
 same := fun b o h => m.ext b o (r.same b o h)
 sub := fun a h => m.sub a (r.sub a h)
 new := fun a h => by
  rcases m.new a h with z | z
  ·exact r.new a z
  ·refine .inr ?_
   cases q : Y.H₀ a with
   | none => rfl
   | some o => rw [r.same a o q] at z; cases z
 trk := m.trk
 me := r.me
 fx := fun i v t e => let ⟨h1, h2⟩ := r.fx i v t e; ⟨h1, h2.keep m.keep⟩
section
variable (Y : Fx)
def Tr (f : En -> Option T) : TE := fun σ H Q => ∃ F ε t, Rel Y F ε σ H /\ f ε = some t /\ ∀ F' v H', Mono F H F' H' -> Rp F' H' v t -> Q v H'
def TrB (f : En -> Option T) : TE := fun σ H Q => ∃ F ε t, Rel Y F ε σ H /\ f ε = some t /\ ∀ F' v H', Mono F H F' H' -> Rb F' H' v t -> Q v H'
def TrF (f : En -> Option T) : TE := fun σ H Q => ∃ F ε t, Rel Y F ε σ H /\ f ε = some t /\ ∀ F' a H', Mono F H F' H' -> H a = none -> ¬ F' a -> Rp1 F' H' a t -> Q (.ref a) H'
def TrT (f : En -> Option Bool) : TT := fun σ H Q => ∃ F ε b, Rel Y F ε σ H /\ f ε = some b /\ ∀ F' H', Mono F H F' H' -> Q b H'
def TrA (f : En -> Option (List T)) : TA := fun σ H Q => ∃ F ε ts, Rel Y F ε σ H /\ f ε = some ts /\ ∀ F' vs H', Mono F H F' H' -> Rps F' H' vs ts -> Q vs H'
def TrAB (f : En -> Option (List T)) : TA := fun σ H Q => ∃ F ε ts, Rel Y F ε σ H /\ f ε = some ts /\ ∀ F' vs H', Mono F H F' H' -> Rbs F' H' vs ts -> Q vs H'
end
abbrev SE (X : Cx) (Y : Fx) (e : Expr) (f : En -> Option T) : Prop := PE X e (Tr Y f)
abbrev BE (X : Cx) (Y : Fx) (e : Expr) (f : En -> Option T) : Prop := PE X e (TrB Y f)
abbrev FE (X : Cx) (Y : Fx) (e : Expr) (f : En -> Option T) : Prop := PE X e (TrF Y f)
abbrev QT (X : Cx) (Y : Fx) (e : Expr) (f : En -> Option Bool) : Prop := PT X e (TrT Y f)
abbrev QW (X : Cx) (Y : Fx) (e : Expr) (f : En -> Option Bool) : Prop := PW X e (TrT Y f)
abbrev SA (X : Cx) (Y : Fx) (es : List Expr) (f : En -> Option (List T)) : Prop := PA X es (TrA Y f)
abbrev BA (X : Cx) (Y : Fx) (es : List Expr) (f : En -> Option (List T)) : Prop := PA X es (TrAB Y f)
section
variable {X : Cx} {Y : Fx} {e a b : Expr} {pos : Pos} {f g : En -> Option T}
theorem PE.imp {t t' : TE} (h : PE X e t) (i : ∀ σ H Q, t' σ H Q -> t σ H Q) : PE X e t' := fun pins s σ H Q I q => h pins s σ H Q I (i σ H Q q)
theorem PT.imp {t t' : TT} (h : PT X e t) (i : ∀ σ H Q, t' σ H Q -> t σ H Q) : PT X e t' := fun pins s σ H Q I q => h pins s σ H Q I (i σ H Q q)
theorem PW.imp {t t' : TT} (h : PW X e t) (i : ∀ σ H Q, t' σ H Q -> t σ H Q) : PW X e t' := fun wh pins s σ H Q I q => h wh pins s σ H Q I (i σ H Q q)
theorem PA.imp {es : List Expr} {t t' : TA} (h : PA X es t) (i : ∀ σ H Q, t' σ H Q -> t σ H Q) : PA X es t' := fun p pins s σ H Q I q => h p pins s σ H Q I (i σ H Q q)
theorem PS.imp {st : Stmt} {t t' : TS} (h : PS X st t) (i : ∀ D σ H, t' D σ H -> t D σ H) : PS X st t' := fun pins s σ H D I q => h pins s σ H D I (i D σ H q)
theorem PSs.imp {st : List Stmt} {t t' : TS} (h : PSs X st t) (i : ∀ D σ H, t' D σ H -> t D σ H) : PSs X st t' := fun pins s σ H D I q => h pins s σ H D I (i D σ H q)
theorem ad0 (h : SE X Y e f) : BE X Y e f := PE.imp h fun _ _ _ ⟨F, ε, t, r, hf, k⟩ => ⟨F, ε, t, r, hf, fun F' v H' m q => k F' v H' m (.v q)⟩
theorem _root_.L2.Inv.seal {X : Cx} {pins : List (Addr × Obj)} {σ : St} {H : Hp} {s : Shared} {a : Addr} {kvs : List (Key × V)} (I : Inv X pins σ H s) (h : H a = some (.dK kvs)) (h0 : X.H₀ a = none \/ True) (hn : ∀ o u, X.H₀ a ≠ some (.frz o u)) (ht : ∀ xs, X.H₀ a ≠ some (.tup xs)) (hb : ∀ ps, X.H₀ a ≠ some (.tbl ps)) :
  ∃ o, Inv X pins σ (upd H a (.frz o (.dK kvs))) s := by
 have ok := I.hok a _ h
 obtain ⟨_, _, _, _, ob, _, _, hob, _⟩ := id ok
 have hm : ∀ b u, H b = some u -> b ≠ a -> upd H a (.frz ob (.dK kvs)) b = some u := fun b u q ne => by rw [an0 ne]; exact q
 have up : ∀ b u, H b = some u -> (∀ z, u ≠ .dK z) -> upd H a (.frz ob (.dK kvs)) b = some u := fun b u q ne => hm b u q fun z => by rw [z, h] at q; exact ne kvs (Option.some.inj q).symm
 have nn : ∀ b, H b = none -> upd H a (.frz ob (.dK kvs)) b = none := fun b q => by rw [an0 (fun z => by rw [z, h] at q; cases q)]; exact q
 refine ⟨ob, ⟨I.ok, I.os, I.bare, ⟨I.base.keep, I.base.slot, fun b o e n hx => nn b (I.base.free b o e n hx), I.base.there, fun b xs e => up b _ (I.base.tups b xs e) (fun z w => by cases w), fun b o u e => ?_, fun b ps e => ?_⟩, I.loc, I.cell, nn _ I.free, fun x c e => nn c (I.freeC x c e), fun p hp => ?_, fun b u e => ?_, I.len⟩⟩
 ·refine up b _ (I.base.frzs b o u e) fun z w => by cases w
 ·obtain ⟨mo, q⟩ := I.base.tbls b ps e
  exact ⟨mo, up b _ q fun z w => by cases w⟩
 ·obtain ⟨h1, h2, h3⟩ := I.pin p hp
  exact ⟨h1, nn _ h2, h3⟩
 ·have st : ∀ {c : Addr} {v : HO}, ObjOk X.prog X.w H s.heap c v -> ObjOk X.prog X.w (upd H a (.frz ob (.dK kvs))) s.heap c v := fun x => x.stay (fun _ _ _ q => q) (fun c q => up c _ q fun z w => by cases w) fun c xs q => up c _ q fun z w => by cases w
  by_cases hba : b = a
  ·subst hba
   rw [aq0] at e
   cases e
   exact ⟨hob, st ok⟩
  ·rw [an0 hba] at e
   exact st (I.hok b u e)
theorem cz0 (h : FE X Y e f) : SE X Y e f := by
 intro pins s σ H Q I ⟨F, ε, t, r, hf, k⟩
 refine thn (h pins s σ H (fun v H' => ∃ F' a, v = .ref a /\ Mono F H F' H' /\ H a = none /\ ¬ F' a /\ Rp1 F' H' a t) I ⟨F, ε, t, r, hf, fun F' a H' m n nf q => ⟨F', a, rfl, m, n, nf, q⟩⟩) fun u s1 ⟨v, H1, I1, rv, F1, a, ev, m, n, nf, q⟩ => ?_
 subst ev
 by_cases hd : isD t = true
 ·cases t with
  | dct kts =>
   cases q with
   | dct ha rs =>
    rename_i kvs
    have z1 : ∀ o u, X.H₀ a ≠ some (.frz o u) := fun o u z => by have := I.base.frzs a o u z; rw [n] at this; cases this
    have z2 : ∀ xs, X.H₀ a ≠ some (.tup xs) := fun xs z => by have := I.base.tups a xs z; rw [n] at this; cases this
    have z3 : ∀ ps, X.H₀ a ≠ some (.tbl ps) := fun ps z => by obtain ⟨mo, w⟩ := I.base.tbls a ps z; rw [n] at w; cases w
    obtain ⟨ob, I2⟩ := I1.seal ha (.inr trivial) z1 z2 z3
    have kp : Keep F1 H1 (fun b => F1 b \/ b = a) (upd H1 a (.frz ob (.dK kvs))) := ⟨fun _ h => .inl h, fun b u f q => by rw [an0 (fun (z : b = a) => nf (z ▸ f))]; exact q, fun b xs q => by rw [an0 (fun (z : b = a) => by rw [z, ha] at q; cases q)]; exact q⟩
    have m2 : Mono F H (fun b => F1 b \/ b = a) (upd H1 a (.frz ob (.dK kvs))) := ⟨fun b u q => by rw [an0 (au0 q n)]; exact m.ext b u q, fun b q => .inl (m.sub b q), fun b q => q.elim (m.new b) fun z => .inr (z ▸ n), fun b q => by
     by_cases z : b = a
     ·exact ⟨_, by rw [z]; exact aq0⟩
     ·rcases q with q | q
      ·obtain ⟨u, w⟩ := m.trk b q
       exact ⟨u, by rw [an0 z]; exact w⟩
      ·exact absurd q z⟩
    exact ⟨.ref a, _, I2, rv, k _ _ _ m2 (.dct (.inr rfl) aq0 (rs.keep kp))⟩
  | _ => cases hd
 ·exact ⟨.ref a, H1, I1, rv, k _ _ _ (m.freeze n q.there) ((q.keep Keep.freeze rfl).frozen (.inr rfl) (by simpa using hd))⟩
theorem bG0 (h : FE X Y e f) : BE X Y e f := ad0 (cz0 h)
def eVar (i : Nat) : En -> Option T := fun ε => match ε[i]? with | some (.sh t) => some t | some (.fix _ t) => some t | _ => none
def bVar (i : Nat) : En -> Option T := fun ε => match ε[i]? with | some (.sh t) => some t | some (.ow t) => some t | some (.fix _ t) => some t | _ => none
def eC (t : T) : En -> Option T := fun _ => some t
theorem ag0 {i : Nat} {x : Str} (h : PE X (.Name x pos) (tVar i)) : SE X Y (.Name x pos) (eVar i) := PE.imp h fun σ H Q ⟨F, ε, t, r, hf, k⟩ => by
 unfold eVar at hf
 split at hf
 ·cases hf
  obtain ⟨v, h1, h2⟩ := r.sh i t (by assumption)
  exact ⟨v, h1, k F v H r.refl h2⟩
 ·cases hf
  obtain ⟨h1, h2⟩ := r.fx i _ _ (by assumption)
  exact ⟨_, h1, k F _ H r.refl h2⟩
 ·cases hf
theorem ac0 {i : Nat} {x : Str} (h : PE X (.Name x pos) (tVar i)) : BE X Y (.Name x pos) (bVar i) := PE.imp h fun σ H Q ⟨F, ε, t, r, hf, k⟩ => by
 unfold bVar at hf
 split at hf
 ·cases hf
  obtain ⟨v, h1, h2⟩ := r.sh i t (by assumption)
  exact ⟨v, h1, k F v H r.refl (.v h2)⟩
 ·cases hf
  obtain ⟨a, h1, _, _, h2⟩ := r.ow i t (by assumption)
  exact ⟨_, h1, k F _ H r.refl (.o h2)⟩
 ·cases hf
  obtain ⟨h1, h2⟩ := r.fx i _ _ (by assumption)
  exact ⟨_, h1, k F _ H r.refl (.v h2)⟩
 ·cases hf
theorem lU0 {v : V} {t : T} (h : PE X e (tC v)) (r : ∀ F H, Rp F H v t) : SE X Y e (eC t) := PE.imp h fun σ H Q ⟨F, ε, u, rl, hf, k⟩ => by
 cases hf
 exact k F v H rl.refl (r F H)
theorem ae0 {i : Int} {j : Nat} : SE X Y (.Constant (.int i) j pos) (eC (.int i)) := lU0 ei0 fun _ _ => .int i
theorem cs0 {i : Bool} {j : Nat} : SE X Y (.Constant (.bool i) j pos) (eC (.bl i)) := lU0 pe_bl fun _ _ => .bl i
theorem bU0 {i : Str} {j : Nat} : SE X Y (.Constant (.str i) j pos) (eC (.str i)) := lU0 mt0 fun _ _ => .str i
def e1 (φ : T -> Option T) (f : En -> Option T) : En -> Option T := fun ε => (f ε).bind φ
def e2 (φ : T -> T -> Option T) (f g : En -> Option T) : En -> Option T := fun ε => (f ε).bind fun s => (g ε).bind fun t => φ s t
def Op2 (r : R2) (φ : T -> T -> Option T) : Prop := ∀ F H x y s t u Q, (∀ a, F a -> ∃ o, H a = some o) -> Rb F H x s -> Rb F H y t -> φ s t = some u -> (∀ F' v H', Mono F H F' H' -> Rp F' H' v u -> Q v H') -> r x y H Q
theorem lw0 {r : R2} {φ : T -> T -> Option T} (o : Op2 r φ) (σ : St) (H : Hp) (Q : VK) (h : Tr Y (e2 φ f g) σ H Q) : tOp r (TrB Y f) (TrB Y g) σ H Q := by
 obtain ⟨F, ε, u, rl, hf, k⟩ := h
 unfold e2 at hf
 cases q1 : f ε with
 | none => rw [q1] at hf; cases hf
 | some s =>
  rw [q1] at hf
  cases q2 : g ε with
  | none => simp only [Option.bind_some, q2] at hf; cases hf
  | some t =>
   simp only [Option.bind_some, q2] at hf
   refine ⟨F, ε, s, rl, q1, fun F1 x H1 m1 r1 => ⟨F1, ε, t, rl.mono m1, q2, fun F2 y H2 m2 r2 => ?_⟩⟩
   exact o F2 H2 x y s t u Q m2.trk (r1.keep m2) r2 hf fun F3 v H3 m3 r3 => k F3 v H3 ((m1.trans m2).trans m3) r3
theorem ib0 {op : Operator} {r : R2} {φ : T -> T -> Option T} (ho : OpR X (binaryOp op) r) (o : Op2 r φ) (ha : BE X Y a f) (hb : BE X Y b g) : SE X Y (.BinOp a op b pos) (e2 φ f g) := PE.imp (nX0 ho ha hb) (lw0 o)
theorem mk0 {op : CmpOp} {r : R2} {φ : T -> T -> Option T} (ho : OpR X (compareOp op) r) (o : Op2 r φ) (ha : BE X Y a f) (hb : BE X Y b g) (hm : behindInMarks op b = false) : SE X Y (.Compare a [op] [b] pos) (e2 φ f g) := PE.imp (ns0 ho ha hb hm) (lw0 o)
def qB (f : En -> Option T) : En -> Option Bool := fun ε => match f ε with | some (.bl b) => some b | _ => none
theorem gv0 {te : TE} (h : ∀ σ H Q, Tr Y f σ H Q -> te σ H Q) (σ : St) (H : Hp) (Q : Bool -> Hp -> Prop) (q : TrT Y (qB f) σ H Q) : nG0 te σ H Q := by
 obtain ⟨F, ε, b, rl, hf, k⟩ := q
 unfold qB at hf
 split at hf
 ·cases hf
  refine h σ H _ ⟨F, ε, .bl b, rl, by assumption, fun F' v H' m r => ⟨b, (Rb.v r).bl_, k F' H' m⟩⟩
 ·cases hf
theorem ek0 {op : CmpOp} {r : R2} {φ : T -> T -> Option T} (ho : OpR X (compareOp op) r) (o : Op2 r φ) (ha : BE X Y a f) (hb : BE X Y b g) (hm : behindInMarks op b = false) : QT X Y (.Compare a [op] [b] pos) (qB (e2 φ f g)) := PT.imp (nV0 ho ha hb hm) (gv0 (lw0 o))
theorem bC0 (h : SE X Y e f) (he : ∀ whole, isTrue e X.env whole = (do let v <- whole; standAt e.pos; holding [v] (truthy v)) := by intro _; rfl) : QT X Y e (qB f) := PT.imp (oP0 h he) (gv0 fun _ _ _ z => z)
def qNot (f : En -> Option Bool) : En -> Option Bool := fun ε => (f ε).map (!·)
def qAnd (f g : En -> Option Bool) : En -> Option Bool := fun ε => (f ε).bind fun b => if b = true then g ε else some false
def qOr (f g : En -> Option Bool) : En -> Option Bool := fun ε => (f ε).bind fun b => if b = true then some true else g ε
variable {p q : En -> Option Bool} {rest : List Expr}
theorem bX0 (h : QT X Y a p) : QT X Y (.UnaryOp .Not a pos) (qNot p) := PT.imp (oM0 h) fun σ H Q ⟨F, ε, b, rl, hf, k⟩ => by
 unfold qNot at hf
 cases e : p ε with
 | none => rw [e] at hf; cases hf
 | some c => rw [e] at hf; cases hf; exact ⟨F, ε, c, rl, e, k⟩
theorem nt0 (h : QT X Y a p) : QW X Y (.BoolOp .And [a] pos) p := nK0 h
theorem dw0 (h : QT X Y a p) : QW X Y (.BoolOp .Or [a] pos) p := or0 h
theorem ph0 (h : QT X Y a p) (h2 : QW X Y (.BoolOp .And (b :: rest) pos) q) : QW X Y (.BoolOp .And (a :: b :: rest) pos) (qAnd p q) := PW.imp (on0 h h2) fun σ H Q ⟨F, ε, c, rl, hf, k⟩ => by
 unfold qAnd at hf
 cases e : p ε with
 | none => rw [e] at hf; cases hf
 | some d =>
  rw [e] at hf
  refine ⟨F, ε, d, rl, e, fun F1 H1 m1 => ?_⟩
  cases d with
  | true => exact ⟨F1, ε, c, rl.mono m1, by simpa using hf, fun F2 H2 m2 => k F2 H2 (m1.trans m2)⟩
  | false => cases hf; exact k F1 H1 m1
theorem fU0 (h : QT X Y a p) (h2 : QW X Y (.BoolOp .Or (b :: rest) pos) q) : QW X Y (.BoolOp .Or (a :: b :: rest) pos) (qOr p q) := PW.imp (pw_or h h2) fun σ H Q ⟨F, ε, c, rl, hf, k⟩ => by
 unfold qOr at hf
 cases e : p ε with
 | none => rw [e] at hf; cases hf
 | some d =>
  rw [e] at hf
  refine ⟨F, ε, d, rl, e, fun F1 H1 m1 => ?_⟩
  cases d with
  | true => cases hf; exact k F1 H1 m1
  | false => exact ⟨F1, ε, c, rl.mono m1, by simpa using hf, fun F2 H2 m2 => k F2 H2 (m1.trans m2)⟩
theorem qt_w (h : QW X Y e p) : QT X Y e p := h.pt
end
inductive Fl where
 | nx (ε : En) | rt (o : Bool) (t : T) | bk (ε : En) | ct (ε : En) | xc (C : Addr)
structure End (Y : Fx) (F : Addr -> Prop) (H : Hp) : Prop where
 same : ∀ b o, Y.H₀ b = some o -> H b = some o
 sub : ∀ a, Y.F₀ a -> F a
 new : ∀ a, F a -> Y.F₀ a \/ Y.H₀ a = none
 trk : ∀ a, F a -> ∃ o, H a = some o
theorem Rel.fin {Y : Fx} {F : Addr -> Prop} {ε : En} {σ : St} {H : Hp} (r : Rel Y F ε σ H) : End Y F H := ⟨r.same, r.sub, r.new, r.trk⟩
def Res (Y : Fx) (o : Bool) (F : Addr -> Prop) (H : Hp) (v : V) (t : T) : Prop :=
 if o = true then ∃ a, v = .ref a /\ ¬ F a /\ Y.H₀ a = none /\ Rp1 F H a t else Rp F H v t
def Post (Y : Fx) (D : Ends) (F : Addr -> Prop) (H : Hp) : Fl -> Prop
 | .nx ε => ∀ F' σ' H', Keep F H F' H' -> Rel Y F' ε σ' H' -> D.nx σ' H'
 | .rt o t => ∀ F' v H', End Y F' H' -> Res Y o F' H' v t -> D.rt v H'
 | .bk ε => ∀ F' σ' H', Keep F H F' H' -> Rel Y F' ε σ' H' -> D.bk σ' H'
 | .ct ε => ∀ F' σ' H', Keep F H F' H' -> Rel Y F' ε σ' H' -> D.ct σ' H'
 | .xc C => ∀ F' H', End Y F' H' -> Y.xk C H'
theorem Post.keep {Y : Fx} {D : Ends} {F F1 : Addr -> Prop} {H H1 : Hp} {fl : Fl} (k : Keep F H F1 H1) (p : Post Y D F H fl) : Post Y D F1 H1 fl := by
 cases fl with
 | nx ε => exact fun F' σ' H' k' r => p F' σ' H' (k.trans k') r
 | rt o t => exact p
 | bk ε => exact fun F' σ' H' k' r => p F' σ' H' (k.trans k') r
 | ct ε => exact fun F' σ' H' k' r => p F' σ' H' (k.trans k') r
 | xc C => exact p
def TrS (Y : Fx) (g : En -> Option Fl) : TS := fun D σ H => ∃ F ε fl, Rel Y F ε σ H /\ g ε = some fl /\ Post Y D F H fl
abbrev SS (X : Cx) (Y : Fx) (st : Stmt) (g : En -> Option Fl) : Prop := PS X st (TrS Y g)
abbrev SSs (X : Cx) (Y : Fx) (st : List Stmt) (g : En -> Option Fl) : Prop := PSs X st (TrS Y g)
theorem aP0 {α : Type} {l : List α} {i j : Nat} {a b : α} (h : (l.set i a)[j]? = some b) : (j = i /\ i < l.length /\ b = a) \/ (j ≠ i /\ l[j]? = some b) := by
 rw [List.getElem?_set] at h
 by_cases e : i = j
 ·rw [if_pos e] at h
  by_cases h2 : i < l.length
  ·rw [if_pos h2] at h; exact .inl ⟨e.symm, h2, (Option.some.inj h).symm⟩
  ·rw [if_neg h2] at h; cases h
 ·rw [if_neg e] at h
  exact .inr ⟨fun z => e z.symm, h⟩
section
variable {Y : Fx} {F : Addr -> Prop} {ε : En} {σ : St} {H : Hp}
theorem Rel.set_sh (r : Rel Y F ε σ H) {i : Nat} {v : V} {t : T} (h : Rp F H v t) : Rel Y F (ε.set i (.sh t)) (σ.set i (some v)) H where
 len := by rw [List.length_set, List.length_set]; exact r.len
 sh := fun j u e => by
  rcases aP0 e with ⟨rfl, hl, e⟩ | ⟨ne, e⟩
  ·cases e; exact ⟨v, by rw [List.getElem?_set_self (by rw [<- r.len]; exact hl)], h⟩
  ·obtain ⟨v', h1, h2⟩ := r.sh j u e
   exact ⟨v', by rw [List.getElem?_set_ne (Ne.symm ne)]; exact h1, h2⟩
 ow := fun j u e => by
  rcases aP0 e with ⟨rfl, hl, e⟩ | ⟨ne, e⟩
  ·cases e
  ·obtain ⟨a, h1, h2⟩ := r.ow j u e
   exact ⟨a, by rw [List.getElem?_set_ne (Ne.symm ne)]; exact h1, h2⟩
 inj := fun j k u w a ne e1 e2 s1 s2 => by
  rcases aP0 e1 with ⟨rfl, hl, e⟩ | ⟨n1, e1⟩
  ·cases e
  rcases aP0 e2 with ⟨rfl, hl, e⟩ | ⟨n2, e2⟩
  ·cases e
  rw [List.getElem?_set_ne (Ne.symm n1)] at s1
  rw [List.getElem?_set_ne (Ne.symm n2)] at s2
  exact r.inj j k u w a ne e1 e2 s1 s2
 same := r.same
 sub := r.sub
 new := r.new
 trk := r.trk
 me := fun j u b e hi s1 => by
  rcases aP0 e with ⟨rfl, hl, e⟩ | ⟨ne, e⟩
  ·cases e
  ·rw [List.getElem?_set_ne (Ne.symm ne)] at s1
   exact r.me j u b e hi s1
 fx := fun j v' u e => by
  rcases aP0 e with ⟨rfl, hl, e⟩ | ⟨ne, e⟩
  ·cases e
  ·rw [List.getElem?_set_ne (Ne.symm ne)]
   exact r.fx j v' u e
theorem Rel.set_ow (r : Rel Y F ε σ H) {i : Nat} {a : Addr} {t : T} (nf : ¬ F a) (h0 : Y.H₀ a = none) (h : Rp1 F H a t) (hn : ∀ (j : Nat) u, ε[j]? = some (.ow u) -> σ[j]? ≠ some (some (.ref a))) (hm : isI t = false) : Rel Y F (ε.set i (.ow t)) (σ.set i (some (.ref a))) H where
 len := by rw [List.length_set, List.length_set]; exact r.len
 sh := fun j u e => by
  rcases aP0 e with ⟨rfl, hl, e⟩ | ⟨ne, e⟩
  ·cases e
  ·obtain ⟨v', h1, h2⟩ := r.sh j u e
   exact ⟨v', by rw [List.getElem?_set_ne (Ne.symm ne)]; exact h1, h2⟩
 ow := fun j u e => by
  rcases aP0 e with ⟨rfl, hl, e⟩ | ⟨ne, e⟩
  ·cases e; exact ⟨a, by rw [List.getElem?_set_self (by rw [<- r.len]; exact hl)], nf, h0, h⟩
  ·obtain ⟨a, h1, h2⟩ := r.ow j u e
   exact ⟨a, by rw [List.getElem?_set_ne (Ne.symm ne)]; exact h1, h2⟩
 inj := fun j k u w b ne e1 e2 s1 s2 => by
  rcases aP0 e1 with ⟨z1, hl, _⟩ | ⟨n1, q1⟩
  ·rcases aP0 e2 with ⟨z2, hl2, _⟩ | ⟨n2, q2⟩
   ·exact ne (z1.trans z2.symm)
   ·rw [z1, List.getElem?_set_self (by rw [<- r.len]; exact hl)] at s1
    cases s1
    rw [List.getElem?_set_ne (Ne.symm n2)] at s2
    exact hn k w q2 s2
  ·rcases aP0 e2 with ⟨z2, hl2, _⟩ | ⟨n2, q2⟩
   ·rw [z2, List.getElem?_set_self (by rw [<- r.len]; exact hl2)] at s2
    cases s2
    rw [List.getElem?_set_ne (Ne.symm n1)] at s1
    exact hn j u q1 s1
   ·rw [List.getElem?_set_ne (Ne.symm n1)] at s1
    rw [List.getElem?_set_ne (Ne.symm n2)] at s2
    exact r.inj j k u w b ne q1 q2 s1 s2
 same := r.same
 sub := r.sub
 new := r.new
 trk := r.trk
 me := fun j u b e hi s1 => by
  rcases aP0 e with ⟨rfl, hl, e⟩ | ⟨ne, e⟩
  ·cases e; rw [hm] at hi; cases hi
  ·rw [List.getElem?_set_ne (Ne.symm ne)] at s1
   exact r.me j u b e hi s1
 fx := fun j v' u e => by
  rcases aP0 e with ⟨rfl, hl, e⟩ | ⟨ne, e⟩
  ·cases e
  ·rw [List.getElem?_set_ne (Ne.symm ne)]
   exact r.fx j v' u e
theorem Rel.write (r : Rel Y F ε σ H) {i : Nat} {a : Addr} {t t' : T} {o : HO} (e : ε[i]? = some (.ow t)) (s : σ[i]? = some (some (.ref a))) (mu : ∀ xs, H a ≠ some (.tup xs)) (h : Rp1 F (upd H a o) a t') (hm : isI t' = true -> isI t = true := by exact fun z => nomatch z) :
  Rel Y F (ε.set i (.ow t')) σ (upd H a o) /\ Keep F H F (upd H a o) := by
 obtain ⟨a', s', nf, h0, hr⟩ := r.ow i t e
 rw [s] at s'
 cases s'
 have k : Keep F H F (upd H a o) := ⟨fun _ h => h, fun b u f q => by rw [an0 (fun (z : b = a) => nf (z ▸ f))]; exact q, fun b xs q => by rw [an0 (fun (z : b = a) => mu xs (z ▸ q))]; exact q⟩
 have hil : i < ε.length := (List.getElem?_eq_some_iff.mp e).1
 refine ⟨⟨by rw [List.length_set]; exact r.len, fun j u q => ?_, fun j u q => ?_, fun j k' u w b ne e1 e2 s1 s2 => ?_, fun b u q => ?_, r.sub, r.new, fun b f => ?_, fun j u b q hi s1 => ?_, fun j v' u q => ?_⟩, k⟩
 ·rcases aP0 q with ⟨rfl, hl, q⟩ | ⟨ne, q⟩
  ·cases q
  ·obtain ⟨v', h1, h2⟩ := r.sh j u q
   exact ⟨v', h1, h2.keep k⟩
 ·rcases aP0 q with ⟨rfl, hl, q⟩ | ⟨ne, q⟩
  ·cases q; exact ⟨a, s, nf, h0, h⟩
  ·obtain ⟨b, h1, h2, h3, h4⟩ := r.ow j u q
   have nba : b ≠ a := fun z => r.inj j i u t a ne q e (z ▸ h1) s
   exact ⟨b, h1, h2, h3, h4.keep k (an0 nba)⟩
 ·rcases aP0 e1 with ⟨rfl, hl, q⟩ | ⟨n1, q1⟩
  ·rcases aP0 e2 with ⟨rfl, hl2, q2⟩ | ⟨n2, q2⟩
   ·exact ne rfl
   ·exact r.inj _ k' t w b ne e q2 s1 s2
  ·rcases aP0 e2 with ⟨rfl, hl2, q2⟩ | ⟨n2, q2⟩
   ·exact r.inj j _ u t b ne q1 e s1 s2
   ·exact r.inj j k' u w b ne q1 q2 s1 s2
 ·rw [an0 (fun z => by rw [z, h0] at q; cases q)]
  exact r.same b u q
 ·obtain ⟨u, q⟩ := r.trk b f
  exact ⟨u, by rw [an0 (fun (z : b = a) => nf (z ▸ f))]; exact q⟩
 ·rcases aP0 q with ⟨rfl, hl, q⟩ | ⟨ne, q⟩
  ·cases q; exact r.me _ t b e (hm hi) s1
  ·exact r.me j u b q hi s1
 ·rcases aP0 q with ⟨rfl, hl, q⟩ | ⟨ne, q⟩
  ·cases q
  ·obtain ⟨h1, h2⟩ := r.fx j v' u q
   exact ⟨h1, h2.keep k⟩
def frz (i : Nat) (ε : En) : En := match ε[i]? with | some (.ow t) => if isD t then ε else ε.set i (.sh t) | _ => ε
theorem Rel.freeze (r : Rel Y F ε σ H) (i : Nat) : ∃ F', Rel Y F' (frz i ε) σ H /\ Keep F H F' H := by
 unfold frz
 split
 ·rename_i t e
  split
  ·exact ⟨F, r, Keep.refl⟩
  rename_i nd
  obtain ⟨a, s, nf, h0, hr⟩ := r.ow i t e
  have k : Keep F H (fun b => F b \/ b = a) H := Keep.freeze
  refine ⟨fun b => F b \/ b = a, ⟨by rw [List.length_set]; exact r.len, fun j u q => ?_, fun j u q => ?_, fun j k' u w b ne e1 e2 s1 s2 => ?_, r.same, fun b f => .inl (r.sub b f), fun b f => ?_, fun b f => ?_, fun j u b q hi s1 => ?_, fun j v' u q => ?_⟩, k⟩
  ·rcases aP0 q with ⟨rfl, hl, q⟩ | ⟨ne, q⟩
   ·cases q; exact ⟨_, s, (hr.keep k rfl).frozen (.inr rfl) (by simpa using nd)⟩
   ·obtain ⟨v', h1, h2⟩ := r.sh j u q
    exact ⟨v', h1, h2.keep k⟩
  ·rcases aP0 q with ⟨rfl, hl, q⟩ | ⟨ne, q⟩
   ·cases q
   ·obtain ⟨b, h1, h2, h3, h4⟩ := r.ow j u q
    refine ⟨b, h1, fun z => z.elim h2 fun z => r.inj j i u t a ne q e (z ▸ h1) s, h3, h4.keep k rfl⟩
  ·rcases aP0 e1 with ⟨rfl, hl, q⟩ | ⟨n1, q1⟩
   ·cases q
   ·rcases aP0 e2 with ⟨rfl, hl2, q2⟩ | ⟨n2, q2⟩
    ·cases q2
    ·exact r.inj j k' u w b ne q1 q2 s1 s2
  ·exact f.elim (r.new b) fun z => .inr (z ▸ h0)
  ·rcases f with f | f
   ·exact r.trk b f
   ·rw [f]; exact hr.there
  ·rcases aP0 q with ⟨rfl, hl, q⟩ | ⟨ne, q⟩
   ·cases q
   ·exact r.me j u b q hi s1
  ·rcases aP0 q with ⟨rfl, hl, q⟩ | ⟨ne, q⟩
   ·cases q
   ·obtain ⟨h1, h2⟩ := r.fx j v' u q
    exact ⟨h1, h2.keep k⟩
 ·exact ⟨F, r, Keep.refl⟩
end
section
variable {X : Cx} {Y : Fx} {st : Stmt} {rest : List Stmt} {e : Expr} {pos pos' : Pos} {f : En -> Option T} {g g2 : En -> Option Fl} {p : En -> Option Bool}
theorem iO0 (i : Nat) (h : SS X Y st g) : SS X Y st (fun ε => g (frz i ε)) := PS.imp h fun D σ H ⟨F, ε, fl, r, hg, k⟩ => by
 obtain ⟨F', r', kp⟩ := r.freeze i
 exact ⟨F', frz i ε, fl, r', hg, k.keep kp⟩
def sNx : En -> Option Fl := fun ε => some (.nx ε)
def sSeq (g g2 : En -> Option Fl) : En -> Option Fl := fun ε => (g ε).bind fun fl => match fl with | .nx ε' => g2 ε' | fl => some fl
theorem aJ0 : SSs X Y [] sNx := PSs.imp mY0 fun D σ H ⟨F, ε, fl, r, hg, k⟩ => by cases hg; exact k F σ H Keep.refl r
theorem ah0 (h1 : SS X Y st g) (h2 : SSs X Y rest g2) : SSs X Y (st :: rest) (sSeq g g2) := PSs.imp (aS0 h1 h2) fun D σ H ⟨F, ε, fl, r, hg, k⟩ => by
 unfold sSeq at hg
 cases q : g ε with
 | none => rw [q] at hg; cases hg
 | some fl1 =>
  rw [q] at hg
  refine ⟨F, ε, fl1, r, q, ?_⟩
  cases fl1 with
  | nx ε' => exact fun F' σ' H' kp r' => ⟨F', ε', fl, r', hg, k.keep kp⟩
  | rt o t => cases hg; exact k
  | bk ε' => cases hg; exact k
  | ct ε' => cases hg; exact k
  | xc C => cases hg; exact k
theorem ai0 (h1 : SS X Y st g) : SSs X Y [st] g := eS0 h1
theorem bx0 : SS X Y st (fun _ => none) := PS.imp ln0 fun D σ H ⟨F, ε, fl, r, hg, k⟩ => by cases hg
def sIf (p : En -> Option Bool) (g g2 : En -> Option Fl) : En -> Option Fl := fun ε => (p ε).bind fun b => if b = true then g ε else g2 ε
theorem br0 {c : Expr} {a b : List Stmt} (hc : QT X Y c p) (ha : SSs X Y a g) (hb : SSs X Y b g2) : SS X Y (.If c a b pos) (sIf p g g2) := PS.imp (ps_if hc ha hb) fun D σ H ⟨F, ε, fl, r, hg, k⟩ => by
 unfold sIf at hg
 cases q : p ε with
 | none => rw [q] at hg; cases hg
 | some d =>
  rw [q] at hg
  refine ⟨F, ε, d, r, q, fun F' H' m => ?_⟩
  cases d with
  | true => rw [if_pos rfl]; exact ⟨F', ε, fl, r.mono m, by simpa using hg, k.keep m.keep⟩
  | false => rw [if_neg Bool.false_ne_true]; exact ⟨F', ε, fl, r.mono m, by simpa using hg, k.keep m.keep⟩
def sSet (i : Nat) (f : En -> Option T) : En -> Option Fl := fun ε => (f ε).map fun t => .nx (ε.set i (.sh t))
def cy0 (i : Nat) (f : En -> Option T) : En -> Option Fl := fun ε => (f ε).bind fun t => if isI t = true then none else some (.nx (ε.set i (.ow t)))
theorem fS0 {te : TE} {i : Nat} (h : PS X st (tAsg te (bZ0 i))) (ht : ∀ σ H Q, Tr Y f σ H Q -> te σ H Q) : SS X Y st (sSet i f) := PS.imp h fun D σ H ⟨F, ε, fl, r, hg, k⟩ => by
 unfold sSet at hg
 cases q : f ε with
 | none => rw [q] at hg; cases hg
 | some t =>
  rw [q] at hg; cases hg
  exact ht _ _ _ ⟨F, ε, t, r, q, fun F' v H' m rv => k F' _ H' m.keep ((r.mono m).set_sh rv)⟩
theorem ig0 {te : TE} {i : Nat} (h : PS X st (tAsg te (bZ0 i))) (ht : ∀ σ H Q, TrF Y f σ H Q -> te σ H Q) : SS X Y st (cy0 i f) := PS.imp h fun D σ H ⟨F, ε, fl, r, hg, k⟩ => by
 unfold cy0 at hg
 cases q : f ε with
 | none => rw [q] at hg; cases hg
 | some t =>
  rw [q] at hg
  simp only [Option.bind_some] at hg
  split at hg
  ·cases hg
  rename_i hi
  cases hg
  refine ht _ _ _ ⟨F, ε, t, r, q, fun F' a H' m n nf rv => k F' _ H' m.keep ((r.mono m).set_ow nf ?_ rv (fun j u e z => ?_) (by simpa using hi))⟩
  ·cases q : Y.H₀ a with
   | none => rfl
   | some o => rw [r.same a o q] at n; cases n
  ·obtain ⟨b, h1, _, _, h2⟩ := r.ow j u e
   rw [h1] at z
   cases z
   obtain ⟨o, q⟩ := h2.there
   rw [q] at n; cases n
theorem bc0 {i : Nat} {x : Str} (hN : X.N.Nodup) (hi : X.N[i]? = some x) (hx : Loc X.env.scope x) (he : SE X Y e f) (hs : swapsWith e (some (.Name x pos')) pos.line X.env = pure false := by rfl)
  (hf : X.fn x = true \/ X.env.scope.names.lookup x = some .local := by first | exact .inl rfl | exact .inr rfl | assumption) : SS X Y (.Assign [.Name x pos'] e pos) (sSet i f) := fS0 (gG0 hN hi hx he hs hf) fun _ _ _ z => z
theorem dJ0 {i : Nat} {x : Str} (hN : X.N.Nodup) (hi : X.N[i]? = some x) (hx : Loc X.env.scope x) (he : FE X Y e f) (hs : swapsWith e (some (.Name x pos')) pos.line X.env = pure false := by rfl)
  (hf : X.fn x = true \/ X.env.scope.names.lookup x = some .local := by first | exact .inl rfl | exact .inr rfl | assumption) : SS X Y (.Assign [.Name x pos'] e pos) (cy0 i f) := ig0 (gG0 hN hi hx he hs hf) fun _ _ _ z => z
def sRet (o : Bool) (f : En -> Option T) : En -> Option Fl := fun ε => (f ε).map fun t => .rt o t
theorem aL0 (he : SE X Y e f) : SS X Y (.Return (some e) pos) (sRet false f) := PS.imp (gz0 he) fun D σ H ⟨F, ε, fl, r, hg, k⟩ => by
 unfold sRet at hg
 cases q : f ε with
 | none => rw [q] at hg; cases hg
 | some t =>
  rw [q] at hg; cases hg
  exact ⟨F, ε, t, r, q, fun F' v H' m rv => k F' v H' (r.mono m).fin rv⟩
theorem dZ0 (he : FE X Y e f) : SS X Y (.Return (some e) pos) (sRet true f) := PS.imp (gz0 he) fun D σ H ⟨F, ε, fl, r, hg, k⟩ => by
 unfold sRet at hg
 cases q : f ε with
 | none => rw [q] at hg; cases hg
 | some t =>
  rw [q] at hg; cases hg
  refine ⟨F, ε, t, r, q, fun F' a H' m n nf rv => k F' _ H' (r.mono m).fin ⟨a, rfl, nf, ?_, rv⟩⟩
  cases q : Y.H₀ a with
  | none => rfl
  | some o => rw [r.same a o q] at n; cases n
def eq0 (i : Nat) : En -> Option Fl := fun ε => match ε[i]? with | some (.ow t) => some (.rt true t) | _ => none
theorem gg0 {i : Nat} {x : Str} (h : PE X (.Name x pos') (tVar i)) : SS X Y (.Return (some (.Name x pos')) pos) (eq0 i) := PS.imp (gz0 h) fun D σ H ⟨F, ε, fl, r, hg, k⟩ => by
 unfold eq0 at hg
 split at hg
 ·cases hg
  obtain ⟨a, s, nf, h0, hr⟩ := r.ow i _ (by assumption)
  exact ⟨_, s, k F _ H r.fin ⟨a, rfl, nf, h0, hr⟩⟩
 ·cases hg
def bb0 (f : En -> Option T) : En -> Option Fl := fun ε => (f ε).map fun _ => .nx ε
theorem bu0 (he : SE X Y e f) (hs : swapsWith e none pos.line X.env = pure false := by rfl) : SS X Y (.Expr e pos) (bb0 f) := PS.imp (cw0 he hs) fun D σ H ⟨F, ε, fl, r, hg, k⟩ => by
 unfold bb0 at hg
 cases q : f ε with
 | none => rw [q] at hg; cases hg
 | some t =>
  rw [q] at hg; cases hg
  exact ⟨F, ε, t, r, q, fun F' v H' m rv => k F' σ H' m.keep (r.mono m)⟩
end
end L2.BD
set_option Elab.async false
set_option linter.all false
set_option maxRecDepth 100000
set_option maxHeartbeats 4000000
namespace L2.BD
open PySem PySem.Spec PyProof.Rows
def aNil : En -> Option (List T) := fun _ => some []
def aa0 (f : En -> Option T) (g : En -> Option (List T)) : En -> Option (List T) := fun ε => (f ε).bind fun t => (g ε).bind fun ts => some (t :: ts)
section
variable {X : Cx} {Y : Fx} {e a b : Expr} {es : List Expr} {pos p : Pos} {f g : En -> Option T} {fa : En -> Option (List T)}
theorem ak0 : SA X Y [] aNil := PA.imp cI0 fun σ H Q ⟨F, ε, ts, r, hf, k⟩ => by cases hf; exact k F [] H r.refl .nil
theorem ax0 : BA X Y [] aNil := PA.imp cI0 fun σ H Q ⟨F, ε, ts, r, hf, k⟩ => by cases hf; exact k F [] H r.refl .nil
theorem ds0 {ε : En} {ts : List T} (h : aa0 f fa ε = some ts) : ∃ t us, f ε = some t /\ fa ε = some us /\ ts = t :: us := by
 unfold aa0 at h
 cases q1 : f ε with
 | none => rw [q1] at h; cases h
 | some t =>
  rw [q1] at h
  cases q2 : fa ε with
  | none => simp only [Option.bind_some, q2] at h; cases h
  | some us => simp only [Option.bind_some, q2] at h; cases h; exact ⟨t, us, rfl, rfl, rfl⟩
theorem ab0 (ha : SE X Y e f) (hr : SA X Y es fa) (hs : starEach (e :: es) X.env = (false, eval e X.env) :: starEach es X.env := by rfl) : SA X Y (e :: es) (aa0 f fa) := PA.imp (bo0 ha hr hs) fun σ H Q ⟨F, ε, ts, r, hf, k⟩ => by
 obtain ⟨t, us, q1, q2, rfl⟩ := ds0 hf
 exact ⟨F, ε, t, r, q1, fun F1 x H1 m1 r1 => ⟨F1, ε, us, r.mono m1, q2, fun F2 xs H2 m2 r2 => k F2 (x :: xs) H2 (m1.trans m2) (.cons (r1.keep m2.keep) r2)⟩⟩
theorem al0 (ha : BE X Y e f) (hr : BA X Y es fa) (hs : starEach (e :: es) X.env = (false, eval e X.env) :: starEach es X.env := by rfl) : BA X Y (e :: es) (aa0 f fa) := PA.imp (bo0 ha hr hs) fun σ H Q ⟨F, ε, ts, r, hf, k⟩ => by
 obtain ⟨t, us, q1, q2, rfl⟩ := ds0 hf
 exact ⟨F, ε, t, r, q1, fun F1 x H1 m1 r1 => ⟨F1, ε, us, r.mono m1, q2, fun F2 xs H2 m2 r2 => k F2 (x :: xs) H2 (m1.trans m2) (.cons (r1.keep m2) r2)⟩⟩
def ao0 (φ : List T -> Option T) (g : En -> Option (List T)) : En -> Option T := fun ε => (g ε).bind φ
theorem eE0 {φ : List T -> Option T} {ε : En} {u : T} (h : ao0 φ fa ε = some u) : ∃ ts, fa ε = some ts /\ φ ts = some u := by
 unfold ao0 at h
 cases q : fa ε with
 | none => rw [q] at h; cases h
 | some ts => rw [q] at h; exact ⟨ts, rfl, h⟩
def Trk (F : Addr -> Prop) (H : Hp) : Prop := ∀ a, F a -> ∃ o, H a = some o
def OpN (r : List V -> Hp -> VK -> Prop) (φ : List T -> Option T) : Prop := ∀ F H xs ts u Q, Trk F H -> Rbs F H xs ts -> φ ts = some u -> (∀ F' v H', Mono F H F' H' -> Rp F' H' v u -> Q v H') -> r xs H Q
def OpNF (r : List V -> Hp -> VK -> Prop) (φ : List T -> Option T) : Prop := ∀ F H xs ts u Q, Trk F H -> Rbs F H xs ts -> φ ts = some u -> (∀ F' a H', Mono F H F' H' -> H a = none -> ¬ F' a -> Rp1 F' H' a u -> Q (.ref a) H') -> r xs H Q
theorem tr_cb {r : List V -> Hp -> VK -> Prop} {φ : List T -> Option T} (o : OpN r φ) (σ : St) (H : Hp) (Q : VK) (h : Tr Y (ao0 φ fa) σ H Q) : tCB r (TrAB Y fa) σ H Q := by
 obtain ⟨F, ε, u, rl, hf, k⟩ := h
 obtain ⟨ts, q1, q2⟩ := eE0 hf
 exact ⟨F, ε, ts, rl, q1, fun F1 xs H1 m1 r1 => o F1 H1 xs ts u Q m1.trk r1 q2 fun F2 v H2 m2 r2 => k F2 v H2 (m1.trans m2) r2⟩
theorem oT0 {r : List V -> Hp -> VK -> Prop} {φ : List T -> Option T} (o : OpNF r φ) (σ : St) (H : Hp) (Q : VK) (h : TrF Y (ao0 φ fa) σ H Q) : tCB r (TrAB Y fa) σ H Q := by
 obtain ⟨F, ε, u, rl, hf, k⟩ := h
 obtain ⟨ts, q1, q2⟩ := eE0 hf
 exact ⟨F, ε, ts, rl, q1, fun F1 xs H1 m1 r1 => o F1 H1 xs ts u Q m1.trk r1 q2 fun F2 a H2 m2 n nf r2 => k F2 a H2 (m1.trans m2) (m1.free n) nf r2⟩
section
variable {x : Str} {id T' : String} {r : List V -> Hp -> VK -> Prop} {φ : List T -> Option T}
theorem da0 (hc : di0 X (.builtin id) r) (o : OpN r φ) (hg : Gl X x) (hm : X.mg x = none) (hv : bootBuiltins x = some (.builtin id)) (ha : BA X Y (e :: es) fa) (hn : x ≠ "__name__" := by decide) (hdb : (x == ("__debug__" : Str)) = false := by decide)
  (he : starEach (e :: es) X.env = (false, eval e X.env) :: starEach es X.env := by rfl) (hpl : (backTo pos (starEach es X.env)).any (·.1) = false := by rfl) : SE X Y (.Call (.Name x p) (e :: es) [] pos) (ao0 φ fa) := PE.imp (hB0 hc hg hm hv ha hn hdb he hpl) (tr_cb o)
theorem ju0 (hc : di0 X (.type T') r) (o : OpN r φ) (hg : Gl X x) (hm : X.mg x = none) (hv : bootBuiltins x = some (.type T')) (ha : BA X Y (e :: es) fa) (hn : x ≠ "__name__" := by decide) (hdb : (x == ("__debug__" : Str)) = false := by decide)
  (he : starEach (e :: es) X.env = (false, eval e X.env) :: starEach es X.env := by rfl) (hpl : (backTo pos (starEach es X.env)).any (·.1) = false := by rfl) : SE X Y (.Call (.Name x p) (e :: es) [] pos) (ao0 φ fa) := PE.imp (fm0 hc hg hm hv ha hn hdb he hpl) (tr_cb o)
theorem fG0 (hc : di0 X (.type T') r) (o : OpNF r φ) (hg : Gl X x) (hm : X.mg x = none) (hv : bootBuiltins x = some (.type T')) (ha : BA X Y (e :: es) fa) (hn : x ≠ "__name__" := by decide) (hdb : (x == ("__debug__" : Str)) = false := by decide)
  (he : starEach (e :: es) X.env = (false, eval e X.env) :: starEach es X.env := by rfl) (hpl : (backTo pos (starEach es X.env)).any (·.1) = false := by rfl) : FE X Y (.Call (.Name x p) (e :: es) [] pos) (ao0 φ fa) := PE.imp (fm0 hc hg hm hv ha hn hdb he hpl) (oT0 o)
end
theorem Rps.laid {F : Addr -> Prop} {H : Hp} {p : Addr} {o : HO} {xs : List V} {ts : List T} (hp : H p = none) (h : Rps F H xs ts) (t : Trk F H) : Rps F (upd H p o) xs ts := h.keep (Mono.laid t hp).keep
theorem Trk.new {F : Addr -> Prop} {H : Hp} {p : Addr} (t : Trk F H) (hp : H p = none) : ¬ F p := fun f => by
 obtain ⟨o, q⟩ := t p f
 rw [q] at hp; cases hp
def big : Nat := 1000000
theorem cN0 {n : Nat} (h : n <= big) : n <= sizeLine := Nat.le_trans h (by decide)
theorem fF0 {n : Nat} (h : n < big) : n < sizeLine := Nat.lt_of_lt_of_le h (by decide)
def eTup (g : En -> Option (List T)) : En -> Option T := fun ε => (g ε).bind fun ts => if ts.length <= big then some (.tup ts) else none
def eLst (g : En -> Option (List T)) : En -> Option T := fun ε => (g ε).bind fun ts => if ts.length <= big then some (.lst ts) else none
theorem bF0 {x1 : Nat} (h : SA X Y es fa) : SE X Y (.Tuple es x1 pos) (eTup fa) := PE.imp (mC0 h) fun σ H Q ⟨F, ε, u, rl, hf, k⟩ => by
 unfold eTup at hf
 cases q : fa ε with
 | none => rw [q] at hf; cases hf
 | some ts =>
  rw [q] at hf
  simp only [Option.bind_some] at hf
  split at hf
  ·cases hf
   refine ⟨F, ε, ts, rl, q, fun F1 xs H1 m1 r1 => ⟨cN0 (by rw [r1.length]; assumption), fun pp hp => ?_⟩⟩
   exact k F1 _ _ (m1.trans (Mono.laid m1.trk hp)) (.tup aq0 (r1.laid hp m1.trk))
  ·cases hf
theorem cb0 (h : SA X Y es fa) : FE X Y (.List es pos) (eLst fa) := PE.imp (jG0 h) fun σ H Q ⟨F, ε, u, rl, hf, k⟩ => by
 unfold eLst at hf
 cases q : fa ε with
 | none => rw [q] at hf; cases hf
 | some ts =>
  rw [q] at hf
  simp only [Option.bind_some] at hf
  split at hf
  ·cases hf
   refine ⟨F, ε, ts, rl, q, fun F1 xs H1 m1 r1 => ⟨cN0 (by rw [r1.length]; assumption), fun pp hp => ?_⟩⟩
   exact k F1 _ _ (m1.trans (Mono.laid m1.trk hp)) (m1.free hp) (Trk.new m1.trk hp) (.lst aq0 (r1.laid hp m1.trk))
  ·cases hf
def eDct0 : En -> Option T := fun _ => some (.dct [])
theorem nL0 : FE X Y (.Dict [] [] pos) eDct0 := PE.imp lp0 fun σ H Q ⟨F, ε, u, rl, hf, k⟩ => by
 cases hf
 intro pp hp
 exact k F _ _ (Mono.laid rl.trk hp) hp (Trk.new rl.trk hp) (.dct aq0 .nil)
end
def φAdd : T -> T -> Option T | .int i, .int j => some (.int (i + j)) | _, _ => none
def φSub : T -> T -> Option T | .int i, .int j => some (.int (i - j)) | _, _ => none
def φMul : T -> T -> Option T | .int i, .int j => if -(2 ^ 64) < j /\ j < 2 ^ 64 then some (.int (i * j)) else none | _, _ => none
def φMod : T -> T -> Option T | .int i, .int j => if 0 < j then some (.int (i % j)) else none | _, _ => none
def φDiv : T -> T -> Option T | .int i, .int j => if 0 < j /\ j < 1073741824 then some (.int (i / j)) else none | _, _ => none
def φLt : T -> T -> Option T | .int i, .int j => some (.bl (decide (i < j))) | _, _ => none
def φLe : T -> T -> Option T | .int i, .int j => some (.bl (decide (i <= j))) | _, _ => none
def φGt : T -> T -> Option T | .int i, .int j => some (.bl (decide (j < i))) | _, _ => none
def φGe : T -> T -> Option T | .int i, .int j => some (.bl (decide (j <= i))) | _, _ => none
def φLen : List T -> Option T
 | [.lst ts] => some (.int ts.length)
 | [.tup ts] => some (.int ts.length)
 | [.str x] => if x.length <= big then some (.int x.length) else none
 | [.scr ns] => some (.int ns.length)
 | _ => none
def bj0 : List T -> Option T
 | [.lst ts] => some (.tup ts)
 | [.tup ts] => some (.tup ts)
 | _ => none
def dq0 : List T -> Option T
 | [.lst ts] => some (.lst ts)
 | [.tup ts] => some (.lst ts)
 | _ => none
def dm0 : List T -> Option T | [.int i, .int j] => some (.int (if j < i then j else i)) | _ => none
def hQ0 : List T -> Option T | [.int i, .int j] => some (.int (if j > i then j else i)) | _ => none
def φIx : T -> T -> Option T
 | .lst ts, .int i => atI ts i
 | .tup ts, .int i => atI ts i
 | .scr ns, .int i => (atI ns i).map .int
 | _, _ => none
theorem nD0 {ns : List Int} {i z : Int} (h : L2.atI ns i = some z) : L2.atI (ns.map V.int) i = some (.int z) := by
 unfold L2.atI at h ⊢
 rw [List.length_map]
 obtain ⟨j, h1, h2⟩ := Option.bind_eq_some_iff.mp h
 rw [h1, Option.bind_some, List.getElem?_map, h2]
 rfl
theorem Rps.atI {F : Addr -> Prop} {H : Hp} {xs : List V} {ts : List T} {i : Int} {t : T} (r : Rps F H xs ts) (h : L2.atI ts i = some t) : ∃ x, L2.atI xs i = some x /\ Rp F H x t := by
 unfold L2.atI at h ⊢
 rw [r.length]
 cases q : ixN ts.length i with
 | none => rw [q] at h; cases h
 | some j => rw [q] at h; exact r.get h
section
variable {X : Cx}
theorem o_add : Op2 (rI0 fun i j => .int (i + j)) φAdd := by
 intro F H x y s t u Q tk rx ry h k
 unfold φAdd at h
 split at h
 ·cases h; exact ⟨_, _, rx.int_, ry.int_, k F _ H (.refl tk) (.int _)⟩
 ·cases h
theorem o_sub : Op2 (rI0 fun i j => .int (i - j)) φSub := by
 intro F H x y s t u Q tk rx ry h k
 unfold φSub at h
 split at h
 ·cases h; exact ⟨_, _, rx.int_, ry.int_, k F _ H (.refl tk) (.int _)⟩
 ·cases h
theorem o_mul : Op2 (rI CMul fun i j => .int (i * j)) φMul := by
 intro F H x y s t u Q tk rx ry h k
 unfold φMul at h
 split at h
 ·split at h
  ·rename_i c
   cases h; exact ⟨_, _, rx.int_, ry.int_, .inr ⟨c.1, c.2⟩, k F _ H (.refl tk) (.int _)⟩
  ·cases h
 ·cases h
theorem o_mod : Op2 (rI (fun _ j => 0 < j) fun i j => .int (i % j)) φMod := by
 intro F H x y s t u Q tk rx ry h k
 unfold φMod at h
 split at h
 ·split at h
  ·cases h; exact ⟨_, _, rx.int_, ry.int_, by assumption, k F _ H (.refl tk) (.int _)⟩
  ·cases h
 ·cases h
theorem o_div : Op2 (rI CDiv fun i j => .int (i / j)) φDiv := by
 intro F H x y s t u Q tk rx ry h k
 unfold φDiv at h
 split at h
 ·split at h
  ·rename_i c
   cases h; exact ⟨_, _, rx.int_, ry.int_, ⟨c.1, c.2⟩, k F _ H (.refl tk) (.int _)⟩
  ·cases h
 ·cases h
theorem o_lt : Op2 (rI0 fun i j => .bl (decide (i < j))) φLt := by
 intro F H x y s t u Q tk rx ry h k
 unfold φLt at h
 split at h
 ·cases h; exact ⟨_, _, rx.int_, ry.int_, k F _ H (.refl tk) (.bl _)⟩
 ·cases h
theorem o_le : Op2 (rI0 fun i j => .bl (decide (i <= j))) φLe := by
 intro F H x y s t u Q tk rx ry h k
 unfold φLe at h
 split at h
 ·cases h; exact ⟨_, _, rx.int_, ry.int_, k F _ H (.refl tk) (.bl _)⟩
 ·cases h
theorem o_gt : Op2 (rI0 fun i j => .bl (decide (j < i))) φGt := by
 intro F H x y s t u Q tk rx ry h k
 unfold φGt at h
 split at h
 ·cases h; exact ⟨_, _, rx.int_, ry.int_, k F _ H (.refl tk) (.bl _)⟩
 ·cases h
theorem o_len {K : PySem.W.Frag} : OpN (fun xs H Q => ∃ x n, xs = [x] /\ LenV K x H n /\ Q (.int n) H) φLen := by
 intro F H xs ts u Q tk r h k
 unfold φLen at h
 split at h
 ·obtain ⟨x, rfl, rx⟩ := Rbs.one r
  obtain ⟨a, ys, rfl, ha, ry⟩ := rx.lst_
  cases h
  exact ⟨_, _, rfl, .inl ⟨ys, SqL.of ha, rfl⟩, by rw [ry.length]; exact k F _ H (.refl tk) (.int _)⟩
 ·obtain ⟨x, rfl, rx⟩ := Rbs.one r
  obtain ⟨a, ys, rfl, ha, ry⟩ := rx.tup_
  cases h
  exact ⟨_, _, rfl, .inr ⟨ys, SqT.of ha, rfl⟩, by rw [ry.length]; exact k F _ H (.refl tk) (.int _)⟩
 ·obtain ⟨x, rfl, rx⟩ := Rbs.one r
  cases rx.str_
  split at h
  ·cases h
   exact ⟨_, _, rfl, ⟨cN0 (by assumption), rfl⟩, k F _ H (.refl tk) (.int _)⟩
  ·cases h
 ·obtain ⟨x, rfl, rx⟩ := Rbs.one r
  obtain ⟨a, o, rfl, ha⟩ := rx.scr_
  cases h
  exact ⟨_, _, rfl, .inl ⟨_, .inl (.inr ⟨o, ha⟩), rfl⟩, by rw [List.length_map]; exact k F _ H (.refl tk) (.int _)⟩
 ·cases h
theorem nl0 {K : PySem.W.Frag} : OpN (fun xs H Q => ∃ p ys, xs = [.ref p] /\ ((SqL K H p ys /\ ∀ l, H l = none -> Q (.ref l) (upd H l (.tup ys))) \/ (SqT K H p ys /\ Q (.ref p) H))) bj0 := by
 intro F H xs ts u Q tk r h k
 unfold bj0 at h
 split at h
 ·obtain ⟨x, rfl, rx⟩ := Rbs.one r
  obtain ⟨a, ys, rfl, ha, ry⟩ := rx.lst_
  cases h
  exact ⟨_, _, rfl, .inl ⟨SqL.of ha, fun l hl => k F _ _ (Mono.laid tk hl) (.tup aq0 (ry.laid hl tk))⟩⟩
 ·obtain ⟨x, rfl, rx⟩ := Rbs.one r
  obtain ⟨a, ys, rfl, ha, ry⟩ := rx.tup_
  cases h
  exact ⟨_, _, rfl, .inr ⟨SqT.of ha, k F _ H (.refl tk) (.tup ha ry)⟩⟩
 ·cases h
theorem oB0 {K : PySem.W.Frag} : OpNF (fun xs H Q => ∃ p ys, xs = [.ref p] /\ (SqL K H p ys \/ SqT K H p ys) /\ ∀ l, H l = none -> Q (.ref l) (upd H l (.lst ys))) dq0 := by
 intro F H xs ts u Q tk r h k
 unfold dq0 at h
 split at h
 ·obtain ⟨x, rfl, rx⟩ := Rbs.one r
  obtain ⟨a, ys, rfl, ha, ry⟩ := rx.lst_
  cases h
  exact ⟨_, _, rfl, .inl (SqL.of ha), fun l hl => k F _ _ (Mono.laid tk hl) hl (Trk.new tk hl) (.lst aq0 (ry.laid hl tk))⟩
 ·obtain ⟨x, rfl, rx⟩ := Rbs.one r
  obtain ⟨a, ys, rfl, ha, ry⟩ := rx.tup_
  cases h
  exact ⟨_, _, rfl, .inr (SqT.of ha), fun l hl => k F _ _ (Mono.laid tk hl) hl (Trk.new tk hl) (.lst aq0 (ry.laid hl tk))⟩
 ·cases h
theorem pg0 : OpN (fun xs H Q => ∃ i j, xs = [.int i, .int j] /\ Q (.int (if j < i then j else i)) H) dm0 := by
 intro F H xs ts u Q tk r h k
 unfold dm0 at h
 split at h
 ·obtain ⟨x, y, rfl, rx, ry⟩ := Rbs.two r
  cases rx.int_; cases ry.int_; cases h
  exact ⟨_, _, rfl, k F _ H (.refl tk) (.int _)⟩
 ·cases h
theorem oY0 : OpN (fun xs H Q => ∃ i j, xs = [.int i, .int j] /\ Q (.int (if j > i then j else i)) H) hQ0 := by
 intro F H xs ts u Q tk r h k
 unfold hQ0 at h
 split at h
 ·obtain ⟨x, y, rfl, rx, ry⟩ := Rbs.two r
  cases rx.int_; cases ry.int_; cases h
  exact ⟨_, _, rfl, k F _ H (.refl tk) (.int _)⟩
 ·cases h
theorem o_ix {K : PySem.W.Frag} : Op2 (rIx K) φIx := by
 intro F H x y s t u Q tk rx ry h k
 unfold φIx at h
 split at h
 ·obtain ⟨a, ys, rfl, ha, r⟩ := rx.lst_
  obtain ⟨z, h1, h2⟩ := r.atI h
  exact .inl ⟨a, ys, _, z, rfl, ry.int_, SqL.of ha, h1, k F _ H (.refl tk) h2⟩
 ·obtain ⟨a, ys, rfl, ha, r⟩ := rx.tup_
  obtain ⟨z, h1, h2⟩ := r.atI h
  exact .inr (.inl ⟨a, ys, _, z, rfl, ry.int_, SqT.of ha, h1, k F _ H (.refl tk) h2⟩)
 ·rename_i ns i
  obtain ⟨a, o, rfl, ha⟩ := rx.scr_
  cases q : L2.atI ns i with
  | none => rw [q] at h; cases h
  | some z =>
   rw [q] at h
   cases h
   exact .inl ⟨a, _, _, .int z, rfl, ry.int_, .inl (.inr ⟨o, ha⟩), nD0 q, k F _ H (.refl tk) (.int z)⟩
 ·cases h
end
section
variable {X : Cx} {Y : Fx} {e a b : Expr} {pos : Pos} {f g : En -> Option T}
theorem av0 (ha : BE X Y a f) (hb : BE X Y b g) (hs : jH0 b := by intro _ _; rfl) : SE X Y (.Subscript a b pos) (e2 φIx f g) := PE.imp (gq0 en0 ha hb hs) (lw0 o_ix)
end
end L2.BD
set_option Elab.async false
set_option linter.all false
set_option maxRecDepth 100000
set_option maxHeartbeats 4000000
namespace L2.BD
open PySem PySem.Spec PyProof.Rows
def mz0 (J : It) (F₀ : Addr -> Prop) (H₀ : Hp) (ts : List T) : Prop := ∀ (i : Nat) F H, Keep F₀ H₀ F H -> Trk F H ->
 (∀ t, ts[i]? = some t -> J.go i H /\ ∀ x H', J.yld i H x H' -> ∃ F', Mono F H F' H' /\ Rp F' H' x t) /\ (i = ts.length -> J.stop i H)
def TrI (Y : Fx) (f : En -> Option (List T)) : TI := fun σ H R => ∃ F ε ts, Rel Y F ε σ H /\ f ε = some ts /\ ∀ F' H' J, Mono F H F' H' -> mz0 J F' H' ts -> R J H'
abbrev SI (X : Cx) (Y : Fx) (tg e : Expr) (f : En -> Option (List T)) : Prop := PI X tg e (TrI Y f)
theorem PI.imp {X : Cx} {tg e : Expr} {t t' : TI} (h : PI X tg e t) (i : ∀ σ H R, t' σ H R -> t σ H R) : PI X tg e t' := fun pins s σ H R I q => h pins s σ H R I (i σ H R q)
def TrG (Y : Fx) (bd : T -> En -> Option En) : TG := fun v σ H Q => ∃ F ε t ε', Rel Y F ε σ H /\ Rp F H v t /\ bd t ε = some ε' /\ ∀ σ', Rel Y F ε' σ' H -> Q σ' H
abbrev SG (X : Cx) (Y : Fx) (tg : Expr) (bd : T -> En -> Option En) : Prop := PG X tg (TrG Y bd)
theorem PG.imp {X : Cx} {tg : Expr} {t t' : TG} (h : PG X tg t) (i : ∀ v σ H Q, t' v σ H Q -> t v σ H Q) : PG X tg t' := fun pins s σ H v u Q I r q => h pins s σ H v u Q I r (i v σ H Q q)
def am0 (i : Nat) (t : T) (ε : En) : Option En := some (ε.set i (.sh t))
def bP0 (i j : Nat) (t : T) (ε : En) : Option En := match t with | .tup [a, b] => some ((ε.set i (.sh a)).set j (.sh b)) | _ => none
def hC0 (i j k : Nat) (t : T) (ε : En) : Option En := match t with | .tup [a, b, c] => some (((ε.set i (.sh a)).set j (.sh b)).set k (.sh c)) | _ => none
section
variable {X : Cx} {Y : Fx} {tg e iter : Expr} {pos : Pos}
theorem by0 {i : Nat} {x : Str} (h : PG X (.Name x pos) (bZ0 i)) : SG X Y (.Name x pos) (am0 i) := PG.imp h fun v σ H Q ⟨F, ε, t, ε', r, rv, hb, k⟩ => by
 cases hb
 exact k _ (r.set_sh rv)
theorem gl0 {i j : Nat} {es : List Expr} {k : Nat} (h : PG X (.Tuple es k pos) (gTup X.K 2 (fl0 (bZ0 i) (fl0 (bZ0 j) gNil)))) : SG X Y (.Tuple es k pos) (bP0 i j) := PG.imp h fun v σ H Q ⟨F, ε, t, ε', r, rv, hb, k⟩ => by
 unfold bP0 at hb
 split at hb
 ·cases hb
  obtain ⟨a, xs, rfl, ha, rs⟩ := (Rb.v rv).tup_
  obtain ⟨x, y, rfl, rx, ry⟩ := rs.two
  exact ⟨a, _, rfl, SqT.of ha, rfl, x, _, rfl, y, _, rfl, rfl, k _ ((r.set_sh rx).set_sh ry)⟩
 ·cases hb
theorem nu0 {i j l : Nat} {es : List Expr} {k : Nat} (h : PG X (.Tuple es k pos) (gTup X.K 3 (fl0 (bZ0 i) (fl0 (bZ0 j) (fl0 (bZ0 l) gNil))))) : SG X Y (.Tuple es k pos) (hC0 i j l) := PG.imp h fun v σ H Q ⟨F, ε, t, ε', r, rv, hb, k⟩ => by
 unfold hC0 at hb
 split at hb
 ·cases hb
  obtain ⟨a, xs, rfl, ha, rs⟩ := (Rb.v rv).tup_
  cases rs with
  | cons rx rs =>
   obtain ⟨y, z, rfl, ry, rz⟩ := rs.two
   exact ⟨a, _, rfl, SqT.of ha, rfl, _, _, rfl, y, _, rfl, z, _, rfl, rfl, k _ (((r.set_sh rx).set_sh ry).set_sh rz)⟩
 ·cases hb
def iLst (f : En -> Option T) : En -> Option (List T) := fun ε => match f ε with | some (.lst ts) => some ts | _ => none
def iTpl (f : En -> Option T) : En -> Option (List T) := fun ε => match f ε with | some (.tup ts) => some ts | _ => none
theorem aY0 {f : En -> Option T} (h : SE X Y e f) : SI X Y tg e (iLst f) := PI.imp (kN0 h) fun σ H R ⟨F, ε, ts, r, hf, k⟩ => by
 unfold iLst at hf
 split at hf
 ·cases hf
  refine ⟨F, ε, _, r, by assumption, fun F1 v H1 m1 r1 => ?_⟩
  cases r1 with
  | @lst a xs _ fa ha rs =>
   refine ⟨a, rfl, ⟨xs, SqL.of ha⟩, k F1 H1 _ m1 fun i F2 H2 kp tk => ⟨fun t e => ?_, fun e => ⟨xs, SqL.of (kp.frz a _ fa ha), by rw [rs.length, e]; exact Nat.le_refl _⟩⟩⟩
   obtain ⟨x, hx, rx⟩ := rs.get e
   have sq : SqL X.K H2 a xs := SqL.of (kp.frz a _ fa ha)
   exact ⟨⟨xs, x, sq, hx⟩, fun y H3 hy => by
    obtain ⟨rfl, hy⟩ := hy
    have e2 := hy xs sq
    rw [hx] at e2
    cases e2
    exact ⟨F2, .refl tk, rx.keep kp⟩⟩
 ·cases hf
theorem el0 {f : En -> Option T} (h : SE X Y e f) : SI X Y tg e (iTpl f) := PI.imp (ot0 h) fun σ H R ⟨F, ε, ts, r, hf, k⟩ => by
 unfold iTpl at hf
 split at hf
 ·cases hf
  refine ⟨F, ε, _, r, by assumption, fun F1 v H1 m1 r1 => ?_⟩
  cases r1 with
  | @tup a xs _ ha rs =>
   refine ⟨a, rfl, ⟨xs, SqT.of ha⟩, k F1 H1 _ m1 fun i F2 H2 kp tk => ⟨fun t e => ?_, fun e => ⟨xs, SqT.of (kp.tup a _ ha), by rw [rs.length, e]; exact Nat.le_refl _⟩⟩⟩
   obtain ⟨x, hx, rx⟩ := rs.get e
   have sq : SqT X.K H2 a xs := SqT.of (kp.tup a _ ha)
   exact ⟨⟨xs, x, sq, hx⟩, fun y H3 hy => by
    obtain ⟨rfl, hy⟩ := hy
    have e2 := hy xs sq
    rw [hx] at e2
    cases e2
    exact ⟨F2, .refl tk, rx.keep kp⟩⟩
 ·cases hf
def bf0 (lo : Int) (n : Nat) : List T := (List.range n).map fun (k : Nat) => T.int (lo + (k : Int))
theorem eG0 {lo : Int} {n i : Nat} {t : T} (h : (bf0 lo n)[i]? = some t) : i < n /\ t = .int (lo + i) := by
 unfold bf0 at h
 rw [List.getElem?_map] at h
 by_cases hi : i < n
 ·rw [List.getElem?_range hi] at h
  exact ⟨hi, (Option.some.inj h).symm⟩
 ·rw [List.getElem?_eq_none (by simpa using hi)] at h
  cases h
theorem bi0 (lo : Int) (n : Nat) : (bf0 lo n).length = n := by unfold bf0; rw [List.length_map, List.length_range]
theorem fN0 {F : Addr -> Prop} {H : Hp} (lo : Int) (n : Nat) : mz0 (Itr lo n) F H (bf0 lo n) := fun i F1 H1 kp tk => by
 refine ⟨fun t e => ?_, fun e => ?_⟩
 ·obtain ⟨hi, rfl⟩ := eG0 e
  exact ⟨hi, fun x H' ⟨e1, e2⟩ => by subst e1 e2; exact ⟨F1, .refl tk, .int _⟩⟩
 ·rw [bi0] at e
  exact Nat.le_of_eq e.symm
def aO0 (g : En -> Option (List T)) : En -> Option (List T) := fun ε => match g ε with | some [.int j] => if -(2 ^ 62) <= j /\ j < 2 ^ 62 then some (bf0 0 j.toNat) else none | _ => none
theorem bB0 {a : Expr} {p : Pos} {g : En -> Option (List T)} (hg : Gl X "range") (hm : X.mg "range" = none) (ha : BA X Y [a] g) (hs : starEach [a] X.env = [(false, eval a X.env)] := by rfl) : SI X Y tg (.Call (.Name "range" p) [a] [] pos) (aO0 g) := PI.imp (jQ0 hg hm ha hs) fun σ H R ⟨F, ε, ts, r, hf, k⟩ => by
 unfold aO0 at hf
 split at hf
 ·split at hf
  ·rename_i c
   cases hf
   refine ⟨F, ε, _, r, by assumption, fun F1 vs H1 m1 r1 => ?_⟩
   obtain ⟨x, rfl, rx⟩ := Rbs.one r1
   cases rx.int_
   exact ⟨_, rfl, c.1, c.2, k F1 H1 _ m1 (fN0 0 _)⟩
  ·cases hf
 ·cases hf
def cn0 (bd : T -> En -> Option En) (body : En -> Option Fl) : List T -> En -> Option Fl
 | [], ε => some (.nx ε)
 | t :: ts, ε => (bd t ε).bind fun ε1 => (body ε1).bind fun fl => match fl with
  | .nx ε' => cn0 bd body ts ε'
  | .ct ε' => cn0 bd body ts ε'
  | .bk ε' => some (.nx ε')
  | .rt o t => some (.rt o t)
  | .xc C => some (.xc C)
def sFor (f : En -> Option (List T)) (bd : T -> En -> Option En) (body : En -> Option Fl) : En -> Option Fl := fun ε => (f ε).bind fun ts => cn0 bd body ts ε
theorem bE0 {f : En -> Option (List T)} {bd : T -> En -> Option En} {body : List Stmt} {g : En -> Option Fl} (hp : PassesOwn (model X.prog X.w) X.A X.env X.xe) (hc : X.calm = true) (hi : SI X Y tg iter f) (hg : SG X Y tg bd) (hb : SSs X Y body g)
  (hs : ∀ x, foldedSetIterable iter X.env x = pure x := by intro _; rfl) : SS X Y (.For tg iter body [] pos) (sFor f bd g) := PS.imp (mi0 hp hc hi hg hb hs) fun D σ H ⟨F, ε, fl, r, hf, k⟩ => by
 unfold sFor at hf
 cases q : f ε with
 | none => rw [q] at hf; cases hf
 | some ts =>
  rw [q] at hf
  have hf : cn0 bd g ts ε = some fl := hf
  refine ⟨F, ε, ts, r, q, fun F1 H1 J m1 yl => ?_⟩
  refine ⟨fun i m σ H => m = ts.length - i /\ i <= ts.length /\ ∃ F2 ε2, Rel Y F2 ε2 σ H /\ Keep F1 H1 F2 H /\ cn0 bd g (ts.drop i) ε2 = some fl, ⟨ts.length, by simp, Nat.zero_le _, F1, ε, r.mono m1, Keep.refl, by simpa using hf⟩, ?_⟩
  rintro i m σ2 H2 ⟨rfl, hi, F2, ε2, r2, k2, l2⟩
  obtain ⟨y1, y2⟩ := yl i F2 H2 k2 r2.trk
  have post : Post Y D F2 H2 fl := (k.keep m1.keep).keep k2
  by_cases hlt : i < ts.length
  ·have e : ts[i]? = some ts[i] := by simp [hlt]
   obtain ⟨go, yld⟩ := y1 _ e
   have hd : ts.drop i = ts[i] :: ts.drop (i + 1) := List.drop_eq_getElem_cons hlt
   rw [hd] at l2
   unfold cn0 at l2
   cases qb : bd ts[i] ε2 with
   | none => rw [qb] at l2; cases l2
   | some ε3 =>
    rw [qb] at l2
    simp only [Option.bind_some] at l2
    cases qg : g ε3 with
    | none => rw [qg] at l2; cases l2
    | some fl3 =>
     rw [qg] at l2
     simp only [Option.bind_some] at l2
     refine .inr ⟨go, fun σ' H' => i + 1 <= ts.length /\ ∃ F4 ε4, Rel Y F4 ε4 σ' H' /\ Keep F1 H1 F4 H' /\ cn0 bd g (ts.drop (i + 1)) ε4 = some fl, fun σ' H' ⟨h1, h2⟩ => ⟨ts.length - (i + 1), by omega, rfl, h1, h2⟩, fun x H' y => ?_⟩
     obtain ⟨F3, m3, rx⟩ := yld x H' y
     refine ⟨F3, ε2, _, ε3, r2.mono m3, rx, qb, fun σ3 r3 => ⟨F3, ε3, fl3, r3, qg, ?_⟩⟩
     have post3 : Post Y D F3 H' fl := post.keep m3.keep
     cases fl3 with
     | nx ε4 => exact fun F4 σ4 H4 k4 r4 => ⟨hlt, F4, ε4, r4, (k2.trans m3.keep).trans k4, l2⟩
     | ct ε4 => exact fun F4 σ4 H4 k4 r4 => ⟨hlt, F4, ε4, r4, (k2.trans m3.keep).trans k4, l2⟩
     | bk ε4 => cases l2; exact fun F4 σ4 H4 k4 r4 => post3 F4 σ4 H4 k4 r4
     | rt o t => cases l2; exact post3
     | xc C => cases l2; exact post3
  ·have e : i = ts.length := by omega
   subst e
   have hd : ts.drop ts.length = [] := List.drop_length
   rw [hd] at l2
   cases l2
   exact .inl ⟨y2 rfl, post F2 σ2 H2 Keep.refl r2⟩
def cL0 (n : Nat) (ε : En) (bd : T -> En -> Option En) (p : En -> Option Bool) (f : En -> Option T) : List T -> Option (List T)
 | [] => some []
 | t :: ts => (bd t (List.replicate n .un ++ ε)).bind fun ε1 => (p ε1).bind fun b => if b = true then (f ε1).bind fun y => (cL0 n ε bd p f ts).bind fun ys => some (y :: ys) else cL0 n ε bd p f ts
def aN0 (n : Nat) (it : En -> Option (List T)) (bd : T -> En -> Option En) (p : En -> Option Bool) (f : En -> Option T) : En -> Option T := fun ε => (it ε).bind fun ts => if ts.length <= big then (cL0 n ε bd p f ts).map .lst else none
theorem Rel.block {Y : Fx} {F : Addr -> Prop} {ε : En} {σ : St} {H : Hp} (r : Rel Y F ε σ H) (n : Nat) : Rel Y F (List.replicate n .un ++ ε) (List.replicate n none ++ σ) H := by
 have gE : ∀ (i : Nat) (z : Sl), (List.replicate n Sl.un ++ ε)[i]? = some z -> z ≠ .un -> n <= i /\ ε[i - n]? = some z := fun i z e hz => by
  by_cases hi : i < n
  ·rw [List.getElem?_append_left (by simpa using hi), List.getElem?_replicate, if_pos hi] at e
   exact absurd (Option.some.inj e).symm hz
  ·rw [List.getElem?_append_right (by simpa using hi), List.length_replicate] at e
   exact ⟨by omega, e⟩
 have gS : ∀ i, n <= i -> (List.replicate n none ++ σ)[i]? = σ[i - n]? := fun i hi => by
  rw [List.getElem?_append_right (by simpa using hi), List.length_replicate]
 refine ⟨by rw [List.length_append, List.length_append, List.length_replicate, List.length_replicate, r.len], fun i t e => ?_, fun i t e => ?_, fun i j t u a ne e1 e2 s1 s2 => ?_, r.same, r.sub, r.new, r.trk, fun i t a e hi s1 => ?_, fun i v t e => ?_⟩
 ·obtain ⟨hi, e⟩ := gE i _ e (fun z => nomatch z)
  rw [gS i hi]
  exact r.sh _ t e
 ·obtain ⟨hi, e⟩ := gE i _ e (fun z => nomatch z)
  rw [gS i hi]
  exact r.ow _ t e
 ·obtain ⟨hi, e1⟩ := gE i _ e1 (fun z => nomatch z)
  obtain ⟨hj, e2⟩ := gE j _ e2 (fun z => nomatch z)
  rw [gS i hi] at s1
  rw [gS j hj] at s2
  exact r.inj (i - n) (j - n) t u a (by omega) e1 e2 s1 s2
 ·obtain ⟨hj, e⟩ := gE i _ e (fun z => nomatch z)
  rw [gS i hj] at s1
  exact r.me _ t a e hi s1
 ·obtain ⟨hi, e⟩ := gE i _ e (fun z => nomatch z)
  rw [gS i hi]
  exact r.fx _ v t e
def BdOk (n : Nat) (g : TG) (bd : T -> En -> Option En) : Prop := ∀ (Y : Fx) v σ H F ε t ε' (Q : St -> Hp -> Prop), Rel Y F (List.replicate n .un ++ ε) (List.replicate n none ++ σ) H -> Rp F H v t -> bd t (List.replicate n .un ++ ε) = some ε' -> (∀ σ', Rel Y F ε' σ' H -> σ'.drop n = σ -> Q σ' H) -> g v (List.replicate n none ++ σ) H Q
theorem aV0 : BdOk 1 (bZ0 0) (am0 0) := fun Y v σ H F ε t ε' Q r rv hb k => by
 cases hb
 exact k _ (r.set_sh rv) rfl
theorem iM0 {K : PySem.W.Frag} : BdOk 2 (gTup K 2 (fl0 (bZ0 0) (fl0 (bZ0 1) gNil))) (bP0 0 1) := fun Y v σ H F ε t ε' Q r rv hb k => by
 unfold bP0 at hb
 split at hb
 ·cases hb
  obtain ⟨a, xs, rfl, ha, rs⟩ := (Rb.v rv).tup_
  obtain ⟨x, y, rfl, rx, ry⟩ := rs.two
  exact ⟨a, _, rfl, SqT.of ha, rfl, x, _, rfl, y, _, rfl, rfl, k _ ((r.set_sh rx).set_sh ry) rfl⟩
 ·cases hb
theorem go0 {n : Nat} {it : En -> Option (List T)} {g : TG} {bd : T -> En -> Option En} {p : En -> Option Bool} {f : En -> Option T} (hb : BdOk n g bd) (σ : St) (H : Hp) (Q : VK) (h : TrF Y (aN0 n it bd p f) σ H Q) :
  ii0 n (TrI Y it) g (TrT Y p) (Tr Y f) σ H Q := by
 obtain ⟨F, ε, u, r, hf, k⟩ := h
 unfold aN0 at hf
 cases q : it ε with
 | none => rw [q] at hf; cases hf
 | some ts =>
  rw [q] at hf
  simp only [Option.bind_some] at hf
  split at hf
  rotate_left
  ·cases hf
  rename_i hbig
  cases q2 : cL0 n ε bd p f ts with
  | none => rw [q2] at hf; cases hf
  | some us =>
   rw [q2] at hf
   cases hf
   refine ⟨F, ε, ts, r, q, fun F1 H1 J m1 yl => ?_⟩
   refine ⟨fun i m ys H => m = ts.length - i /\ i <= ts.length /\ ys.length <= i /\ ∃ F2 us1 us2, us = us1 ++ us2 /\ Mono F1 H1 F2 H /\ Rps F2 H ys us1 /\ cL0 n ε bd p f (ts.drop i) = some us2,
    ⟨ts.length, by simp, Nat.zero_le _, Nat.zero_le _, F1, [], us, rfl, .refl m1.trk, .nil, by simpa using q2⟩, ?_⟩
   rintro i m ys H2 ⟨rfl, hi, hys, F2, us1, us2, rfl, m2, rs, l2⟩
   obtain ⟨y1, y2⟩ := yl i F2 H2 m2.keep m2.trk
   by_cases hlt : i < ts.length
   ·have e : ts[i]? = some ts[i] := by simp [hlt]
    obtain ⟨go, yld⟩ := y1 _ e
    have hd : ts.drop i = ts[i] :: ts.drop (i + 1) := List.drop_eq_getElem_cons hlt
    rw [hd] at l2
    unfold cL0 at l2
    refine .inr ⟨go, fun x H' y => ?_⟩
    obtain ⟨F3, m3, rx⟩ := yld x H' y
    have r3 := ((r.mono m1).mono (m2.trans m3)).block n
    cases qb : bd ts[i] (List.replicate n .un ++ ε) with
    | none => rw [qb] at l2; cases l2
    | some ε3 =>
     rw [qb] at l2
     simp only [Option.bind_some] at l2
     cases qp : p ε3 with
     | none => rw [qp] at l2; cases l2
     | some b =>
      rw [qp] at l2
      simp only [Option.bind_some] at l2
      refine hb Y x σ H' F3 ε ts[i] ε3 _ r3 rx qb fun σ3 r4 hσ => ⟨hσ, F3, ε3, b, r4, qp, fun F4 H4 m4 => ?_⟩
      have m14 : Mono F1 H1 F4 H4 := (m2.trans m3).trans m4
      cases b with
      | false =>
       dsimp only
       rw [if_neg Bool.false_ne_true] at l2 ⊢
       exact ⟨_, by omega, rfl, hlt, by omega, F4, us1, us2, rfl, m14, rs.keep (m3.trans m4).keep, l2⟩
      | true =>
       dsimp only
       rw [if_pos rfl] at l2 ⊢
       cases qf : f ε3 with
       | none => rw [qf] at l2; cases l2
       | some t3 =>
        rw [qf] at l2
        simp only [Option.bind_some] at l2
        cases qr : cL0 n ε bd p f (ts.drop (i + 1)) with
        | none => rw [qr] at l2; cases l2
        | some us3 =>
         rw [qr] at l2
         cases l2
         refine ⟨F4, ε3, t3, r4.mono m4, qf, fun F5 v H5 m5 r5 => ⟨?_, _, (show ts.length - (i + 1) < ts.length - i by omega), rfl, hlt, ?_, F5, us1 ++ [t3], us3, by simp, m14.trans m5, (rs.keep ((m3.trans m4).trans m5).keep).append (.cons r5 .nil), (by first | exact qr | rfl)⟩⟩
         ·exact fF0 (by omega)
         ·rw [List.length_append, List.length_singleton]; omega
   ·have e : i = ts.length := by omega
    subst e
    have hd : ts.drop ts.length = [] := List.drop_length
    rw [hd] at l2
    cases l2
    refine .inl ⟨y2 rfl, fun pp hp => ?_⟩
    rw [List.append_nil] at k
    exact k F2 _ _ ((m1.trans m2).trans (Mono.laid m2.trk hp)) ((m1.trans m2).free hp) (Trk.new m2.trk hp) (.lst aq0 (rs.laid hp m2.trk))
section
variable {scope : Scope} {own : List Str} {elt : Expr} {ifs : List Expr} {g : TG} {it : En -> Option (List T)} {bd : T -> En -> Option En} {p : En -> Option Bool} {f : En -> Option T}
abbrev Blk (X : Cx) (own : List Str) (scope : Scope) (C : Addr) (s : Shared) (H : Hp) (fp : List Addr) : Cx := blk X (own ++ hide own X.N) scope C s H fp
theorem bg0 (hc : X.calm = true) (ck : du0 scope own X.N X.env.scope = true) (hi : SI X Y tg iter it) (hb : BdOk own.length g bd)
  (hg : ∀ C s₂ H₂ fp, PG (Blk X own scope C s₂ H₂ fp) tg g) (ht : ∀ C s₂ H₂ fp, PIf (Blk X own scope C s₂ H₂ fp) ifs (TrT Y p)) (he : ∀ C s₂ H₂ fp, SE (Blk X own scope C s₂ H₂ fp) Y elt f)
  (hs : ∀ x, foldedSetIterable iter X.env x = pure x := by intro _; rfl) : FE X Y (.ListComp elt [⟨tg, iter, ifs, 0⟩] scope pos) (aN0 own.length it bd p f) := PE.imp (od0 hc ck hi hg ht he hs) (go0 hb)
theorem eN0 {i : Nat} {y : Str} {py spos : Pos} (hN : X.N.Nodup) (hiN : X.N[i]? = some y) (hy : Loc X.env.scope y) (hc : X.calm = true) (ck : du0 scope own X.N X.env.scope = true) (hi : SI X Y tg iter it) (hb : BdOk own.length g bd)
  (hg : ∀ C s₂ H₂ fp, PG (Blk X own scope C s₂ H₂ fp) tg g) (ht : ∀ C s₂ H₂ fp, PIf (Blk X own scope C s₂ H₂ fp) ifs (TrT Y p)) (he : ∀ C s₂ H₂ fp, SE (Blk X own scope C s₂ H₂ fp) Y elt f)
  (hsw : swapsWith (.ListComp elt [⟨tg, iter, ifs, 0⟩] scope pos) (some (.Name y py)) spos.line X.env = pure true)
  (hs : ∀ x, foldedSetIterable iter X.env x = pure x := by intro _; rfl) (hf : X.fn y = true \/ X.env.scope.names.lookup y = some .local := by first | exact .inl rfl | exact .inr rfl | assumption) :
  SS X Y (.Assign [.Name y py] (.ListComp elt [⟨tg, iter, ifs, 0⟩] scope pos) spos) (sSet i (aN0 own.length it bd p f)) :=
 fS0 (gp0 hN hiN hy hc ck hi hg ht he hsw hs hf) fun σ H Q h => go0 hb σ H Q (by
  obtain ⟨F, ε, t, r, hf, k⟩ := h
  refine ⟨F, ε, t, r, hf, fun F' a H' m n nf q => k _ _ _ (m.freeze n q.there) ((q.keep Keep.freeze rfl).frozen (.inr rfl) ?_)⟩
  unfold aN0 at hf
  cases q : it ε with
  | none => rw [q] at hf; cases hf
  | some ts =>
   rw [q] at hf
   simp only [Option.bind_some] at hf
   split at hf
   ·cases q2 : cL0 own.length ε bd p f ts with
    | none => rw [q2] at hf; cases hf
    | some us => rw [q2] at hf; cases hf; rfl
   ·cases hf)
end
def be0 : En -> Option Bool := fun _ => some true
theorem bq0 {X : Cx} {Y : Fx} : PIf X [] (TrT Y be0) := fun pins s σ H Q I ⟨F, ε, b, r, hf, k⟩ => by
 cases hf
 exact nP0 pins s σ H Q I (k F H r.refl)
theorem hw0 {X : Cx} {Y : Fx} {c : Expr} {p : En -> Option Bool} (h : QT X Y c p) : PIf X [c] (TrT Y p) := mW0 h
end
def ResC (o : Bool) (H : Hp) (F' : Addr -> Prop) (H' : Hp) (v : V) (t : T) : Prop :=
 if o = true then ∃ a, v = .ref a /\ H a = none /\ ¬ F' a /\ Rp1 F' H' a t else Rp F' H' v t
def spP (gs : List T -> Option (Bool × T)) : Sp := fun vs H Q _ => ∃ F ts o t, Trk F H /\ Rps F H vs ts /\ gs ts = some (o, t) /\ ∀ F' v H', Mono F H F' H' -> ResC o H F' H' v t -> Q v H'
def ce0 (N : List Str) (ts : List T) : En := ts.map .sh ++ List.replicate (N.length - ts.length) .un
def ct0 : Fl -> Option (Bool × T)
 | .rt o t => some (o, t)
 | .nx _ => some (false, .non)
 | _ => none
theorem dg0 {N : List Str} {F : Addr -> Prop} {H : Hp} {vs : List V} {ts : List T} (tk : Trk F H) (r : Rps F H vs ts) : Rel ⟨H, F, fun _ => True, fun _ _ => False⟩ F (ce0 N ts) (start N vs) H where
 len := by
  unfold ce0 start
  rw [List.length_append, List.length_append, List.length_map, List.length_map, List.length_replicate, List.length_replicate, r.length]
 sh := fun i t e => by
  unfold ce0 at e
  by_cases hi : i < ts.length
  ·rw [List.getElem?_append_left (by simpa using hi), List.getElem?_map] at e
   cases q : ts[i]? with
   | none => rw [q] at e; cases e
   | some t' =>
    rw [q] at e
    have e : Sl.sh t' = .sh t := Option.some.inj e
    cases e
    obtain ⟨x, hx, rx⟩ := r.get q
    refine ⟨x, ?_, rx⟩
    unfold start
    rw [List.getElem?_append_left (by rw [List.length_map, r.length]; exact hi), List.getElem?_map, hx]
    rfl
  ·rw [List.getElem?_append_right (by simpa using hi), List.getElem?_replicate] at e
   split at e <;> cases e
 ow := fun i t e => by
  exfalso
  unfold ce0 at e
  by_cases hi : i < ts.length
  ·rw [List.getElem?_append_left (by simpa using hi), List.getElem?_map] at e
   cases q : ts[i]? with
   | none => rw [q] at e; cases e
   | some t' => rw [q] at e; cases e
  ·rw [List.getElem?_append_right (by simpa using hi), List.getElem?_replicate] at e
   split at e <;> cases e
 inj := fun i j t u a ne e _ _ _ => by
  exfalso
  unfold ce0 at e
  by_cases hi : i < ts.length
  ·rw [List.getElem?_append_left (by simpa using hi), List.getElem?_map] at e
   cases q : ts[i]? with
   | none => rw [q] at e; cases e
   | some t' => rw [q] at e; cases e
  ·rw [List.getElem?_append_right (by simpa using hi), List.getElem?_replicate] at e
   split at e <;> cases e
 same := fun _ _ h => h
 sub := fun _ h => h
 new := fun _ h => .inl h
 trk := tk
 me := fun i t a e _ _ => by
  exfalso
  unfold ce0 at e
  by_cases hi : i < ts.length
  ·rw [List.getElem?_append_left (by simpa using hi), List.getElem?_map] at e
   cases q : ts[i]? with
   | none => rw [q] at e; cases e
   | some t' => rw [q] at e; cases e
  ·rw [List.getElem?_append_right (by simpa using hi), List.getElem?_replicate] at e
   split at e <;> cases e
 fx := fun i v t e => by
  exfalso
  unfold ce0 at e
  by_cases hi : i < ts.length
  ·rw [List.getElem?_append_left (by simpa using hi), List.getElem?_map] at e
   cases q : ts[i]? with
   | none => rw [q] at e; cases e
   | some t' => rw [q] at e; cases e
  ·rw [List.getElem?_append_right (by simpa using hi), List.getElem?_replicate] at e
   split at e <;> cases e
section
variable {P : Program} {w : World} {K : PySem.W.Frag} {mg : Str -> Option Value} {base : Heap}
theorem aE0 {x qual : Str} {st : Stmt} {f : Addr} {fd : FuncData} {N ps : List Str} {k : Nat} {gs : List T -> Option (Bool × T)} (Fn : Fun K x qual st f fd) (S : FnScope N ps (af0 st))
  (hlen : ∀ ts r, gs ts = some r -> ts.length = ps.length)
  (hbody : ∀ (cdv : Value) (A : Around) (outer : List Env) (s : Shared) (H : Hp) (E : XK) (F : Addr -> Prop), Room k (A.deeper (envOfC qual (af0 st) s.heap.objs.size f cdv)) ->
   ∃ g, SSs ((cxOf CX0 P w K mg base N qual (af0 st) f cdv A outer s H E).nox) ⟨H, F, fun _ => True, fun _ _ => False⟩ (bt0 st) g /\ ∀ ts o t, gs ts = some (o, t) -> (g (ce0 N ts)).bind ct0 = some (o, t)) : FnOk P w K mg base CX0 (k + 1) f fd ps (spP gs) := by
 refine Fn.ok S (fun vs H Q E h => ?_) fun cdv A outer s H vs Q E hr h => ?_
 ·obtain ⟨F, ts, o, t, _, r, e, _⟩ := h
  rw [r.length]
  exact hlen ts _ e
 ·obtain ⟨F, ts, o, t, tk, r, e, q⟩ := h
  obtain ⟨g, hg, hv⟩ := hbody cdv A outer s H E F hr
  refine ⟨_, hg, ?_⟩
  have hv := hv ts o t e
  cases qg : g (ce0 N ts) with
  | none => rw [qg] at hv; cases hv
  | some fl =>
   rw [qg] at hv
   have hv : ct0 fl = some (o, t) := hv
   refine ⟨F, ce0 N ts, fl, dg0 tk r, qg, ?_⟩
   have mono : ∀ {F' : Addr -> Prop} {H' : Hp}, End ⟨H, F, fun _ => True, fun _ _ => False⟩ F' H' -> Mono F H F' H' := fun e => ⟨e.same, e.sub, e.new, e.trk⟩
   cases fl with
   | nx ε => cases hv; exact fun F' σ' H' _ rl => q F' .non H' (mono rl.fin) (show Rp F' H' .non .non from .non)
   | rt o' t' => 
    cases hv
    intro F' v H' en rs
    refine q F' v H' (mono en) ?_
    cases o with
    | false => exact rs
    | true =>
     obtain ⟨a, h1, h2, h3, h4⟩ := (show ∃ a, v = .ref a /\ ¬ F' a /\ H a = none /\ Rp1 F' H' a t from rs)
     exact ⟨a, h1, h3, h2, h4⟩
   | bk ε => cases hv
   | ct ε => cases hv
   | xc C => cases hv
end
def noD (bt : Bool × T) : Option T := if bt.1 && isD bt.2 then none else some bt.2
def eFn (gs : List T -> Option (Bool × T)) (g : En -> Option (List T)) : En -> Option T := fun ε => (g ε).bind fun ts => (gs ts).bind noD
section
variable {X : Cx} {Y : Fx} {k : Nat} {f C : Addr} {fd : FuncData} {ps : List Str} {x m : Str} {p pos apos : Pos} {e o : Expr} {es : List Expr} {gs : List T -> Option (Bool × T)} {fa : En -> Option (List T)} {fo : En -> Option T}
theorem mh0 {b : Bool} {F F' : Addr -> Prop} {H H' : Hp} {v : V} {t u : T} (hn : noD (b, t) = some u) (m : Mono F H F' H') (r : ResC b H F' H' v t) : ∃ F'', Mono F H F'' H' /\ Rp F'' H' v u := by
 unfold noD at hn
 split at hn
 ·cases hn
 rename_i nd
 cases hn
 cases b with
 | false => exact ⟨F', m, r⟩
 | true =>
  obtain ⟨a, rfl, n, nf, q⟩ := (show ∃ a, v = .ref a /\ H a = none /\ ¬ F' a /\ Rp1 F' H' a t from r)
  exact ⟨_, m.freeze n q.there, (q.keep Keep.freeze rfl).frozen (.inr rfl) (by simpa using nd)⟩
theorem tr_fn (σ : St) (H : Hp) (Q : VK) (h : Tr Y (eFn gs fa) σ H Q) : jz0 (spP gs) [] E0 (TrA Y fa) σ H Q := by
 obtain ⟨F, ε, u, rl, hf, k⟩ := h
 unfold eFn at hf
 cases q : fa ε with
 | none => rw [q] at hf; cases hf
 | some ts =>
  rw [q] at hf
  simp only [Option.bind_some] at hf
  cases q2 : gs ts with
  | none => rw [q2] at hf; cases hf
  | some bt =>
   obtain ⟨b, t⟩ := bt
   rw [q2] at hf
   have hf : noD (b, t) = some u := hf
   refine ⟨F, ε, ts, rl, q, fun F1 vs H1 m1 r1 => ⟨F1, ts, b, t, m1.trk, by rw [List.append_nil]; exact r1, q2, fun F2 v H2 m2 r2 => ?_⟩⟩
   obtain ⟨F3, m3, r3⟩ := mh0 hf m2 r2
   exact k F3 v H2 (m1.trans m3) r3
def eFnF (gs : List T -> Option (Bool × T)) (g : En -> Option (List T)) : En -> Option T := fun ε => (g ε).bind fun ts => match gs ts with | some (true, t) => some t | _ => none
theorem oL0 (σ : St) (H : Hp) (Q : VK) (h : TrF Y (eFnF gs fa) σ H Q) : jz0 (spP gs) [] E0 (TrA Y fa) σ H Q := by
 obtain ⟨F, ε, u, rl, hf, k⟩ := h
 unfold eFnF at hf
 cases q : fa ε with
 | none => rw [q] at hf; cases hf
 | some ts =>
  rw [q] at hf
  simp only [Option.bind_some] at hf
  split at hf
  ·cases hf
   refine ⟨F, ε, ts, rl, q, fun F1 vs H1 m1 r1 => ⟨F1, ts, true, u, m1.trk, by rw [List.append_nil]; exact r1, by assumption, fun F2 v H2 m2 r2 => ?_⟩⟩
   obtain ⟨a, rfl, n, nf, q⟩ := (show ∃ a, v = .ref a /\ H1 a = none /\ ¬ F2 a /\ Rp1 F2 H2 a u from r2)
   exact k F2 a H2 (m1.trans m2) (m1.free n) nf q
  ·cases hf
theorem se_fn (Fn : FnOk X.prog X.w X.K X.mg X.base CX0 k f fd ps (spP gs)) (hr : Room k X.A) (hg : Gl X x) (hm : X.mg x = some (.ref f)) (hk : PySem.W.keepIn X.K (.ref f) = true) (hb : Binds X.K fd ps []) (ha : SA X Y (e :: es) fa)
  (hdb : (x == ("__debug__" : Str)) = false := by decide) (he : starEach (e :: es) X.env = (false, eval e X.env) :: starEach es X.env := by rfl) (hpl : (backTo pos (starEach es X.env)).any (·.1) = false := by rfl) :
  SE X Y (.Call (.Name x p) (e :: es) [] pos) (eFn gs fa) := PE.imp (ga0 Fn hr hg hm hk hb .nil gt0 ha hdb he hpl) tr_fn
theorem fe_fn (Fn : FnOk X.prog X.w X.K X.mg X.base CX0 k f fd ps (spP gs)) (hr : Room k X.A) (hg : Gl X x) (hm : X.mg x = some (.ref f)) (hk : PySem.W.keepIn X.K (.ref f) = true) (hb : Binds X.K fd ps []) (ha : SA X Y (e :: es) fa)
  (hdb : (x == ("__debug__" : Str)) = false := by decide) (he : starEach (e :: es) X.env = (false, eval e X.env) :: starEach es X.env := by rfl) (hpl : (backTo pos (starEach es X.env)).any (·.1) = false := by rfl) :
  FE X Y (.Call (.Name x p) (e :: es) [] pos) (eFnF gs fa) := PE.imp (ga0 Fn hr hg hm hk hb .nil gt0 ha hdb he hpl) oL0
def bn0 (C : Addr) (m : Str) (gs : List T -> Option (Bool × T)) (fo : En -> Option T) (g : En -> Option (List T)) : En -> Option T := fun ε => match fo ε with
 | some (.ins C' fs) => if C' = C /\ fs.lookup m = none then (g ε).bind fun ts => (gs (.ins C' fs :: ts)).bind noD else none
 | _ => none
theorem iE0 (σ : St) (H : Hp) (Q : VK) (h : Tr Y (bn0 C m gs fo fa) σ H Q) : lA0 C m (spP gs) [] E0 (Tr Y fo) (TrA Y fa) σ H Q := by
 obtain ⟨F, ε, u, rl, hf, k⟩ := h
 unfold bn0 at hf
 split at hf
 ·rename_i C' fs qo
  split at hf
  ·rename_i hc
   obtain ⟨rfl, hl⟩ := hc
   refine ⟨F, ε, _, rl, qo, fun F1 v H1 m1 r1 => ?_⟩
   cases hr : r1 with
   | @ins a _ dx fv _ fa' ha rf =>
    refine ⟨a, dx, fv, rfl, ha, rf.look_none hl, ?_⟩
    cases q : fa ε with
    | none => rw [q] at hf; cases hf
    | some ts =>
     rw [q] at hf
     simp only [Option.bind_some] at hf
     cases q2 : gs (.ins C' fs :: ts) with
     | none => rw [q2] at hf; cases hf
     | some bt =>
      obtain ⟨b, t⟩ := bt
      rw [q2] at hf
      have hf : noD (b, t) = some u := hf
      refine ⟨F1, ε, ts, rl.mono m1, q, fun F2 vs H2 m2 r2 => ⟨F2, .ins C' fs :: ts, b, t, m2.trk, by rw [List.append_nil]; exact .cons (r1.keep m2.keep) r2, q2, fun F3 v H3 m3 r3 => ?_⟩⟩
      obtain ⟨F4, m4, r4⟩ := mh0 hf m3 r3
      exact k F4 v H3 ((m1.trans m2).trans m4) r4
  ·cases hf
 ·cases hf
theorem mV0 {pl : Sem Bool} (ho : SE X Y o fo) (c : Cls X.K C) (hm : Meth X.K C m f) (Fn : FnOk X.prog X.w X.K X.mg X.base CX0 k f fd ps (spP gs)) (hr : Room k X.A) (hb : Binds X.K fd ps []) (ha : SA X Y (e :: es) fa)
  (hst : starEach (e :: es) X.env = (false, eval e X.env) :: starEach es X.env := by rfl) (hpl : (backTo pos (starEach es X.env)).any (·.1) = false := by rfl)
  (ht : eval (.Call (.Attribute o m apos) (e :: es) [] pos) X.env = (do
   let ov <- eval o X.env
   standAt apos.atName
   let (f, first) <- holding [ov] (getMethod ov m pl)
   callWith pos f first (backTo pos (starEach (e :: es) X.env)) (backToKw pos (keywordEach [] X.env))) := by rfl) :
  SE X Y (.Call (.Attribute o m apos) (e :: es) [] pos) (bn0 C m gs fo fa) := PE.imp (iK0 ho c hm Fn hr hb .nil gt0 ha hst hpl ht) iE0
theorem lb0 {pl : Sem Bool} (ho : SE X Y o fo) (c : Cls X.K C) (hm : Meth X.K C m f) (Fn : FnOk X.prog X.w X.K X.mg X.base CX0 k f fd ps (spP gs)) (hr : Room k X.A) (hb : Binds X.K fd ps [])
  (ht : eval (.Call (.Attribute o m apos) [] [] pos) X.env = (do
   let ov <- eval o X.env
   standAt apos.atName
   let (f, first) <- holding [ov] (getMethod ov m pl)
   callWith pos f first (backTo pos (starEach [] X.env)) (backToKw pos (keywordEach [] X.env))) := by rfl) :
  SE X Y (.Call (.Attribute o m apos) [] [] pos) (bn0 C m gs fo aNil) := PE.imp (lR0 ho c hm Fn hr hb .nil gt0 ht) fun σ H Q h => by
 obtain ⟨F, ε, t, rl, ht, q⟩ := iE0 (C := C) (fa := aNil) σ H Q h
 refine ⟨F, ε, t, rl, ht, fun F' v H' mm rv => ?_⟩
 obtain ⟨a, dx, fs, h1, h2, h3, F1, ε1, ts, r1, e1, k1⟩ := q F' v H' mm rv
 cases e1
 exact ⟨a, dx, fs, h1, h2, h3, k1 F1 [] H' r1.refl .nil⟩
def eFld (C : Addr) (n : Str) (fo : En -> Option T) : En -> Option T := fun ε => match fo ε with
 | some (.ins C' fs) => if C' = C then fs.lookup n else none
 | _ => none
theorem cp0 (ho : BE X Y o fo) (c : Cls X.K C) (na : NoAttr X.K C m) (hb : attributeBase o m X.env (eval o X.env) = eval o X.env := by rfl) : SE X Y (.Attribute o m pos) (eFld C m fo) := PE.imp (oW0 ho hb) fun σ H Q ⟨F, ε, u, rl, hf, k⟩ => by
 unfold eFld at hf
 split at hf
 ·rename_i C' fs qo
  split at hf
  ·rename_i hc
   subst hc
   refine ⟨F, ε, _, rl, qo, fun F1 v H1 m1 r1 => ?_⟩
   obtain ⟨a, dx, xs, rfl, ha, rf⟩ := r1.ins_
   obtain ⟨v, h1, h2⟩ := rf.look hf
   exact ⟨a, C', dx, xs, v, rfl, ha, c, na, h1, k F1 v H1 m1 h2⟩
  ·cases hf
 ·cases hf
end
end L2.BD
set_option Elab.async false
set_option linter.all false
set_option maxRecDepth 100000
set_option maxHeartbeats 4000000
namespace L2.BD
open PySem PySem.Spec PyProof.Rows
def aQ0 : T -> Bool
 | .non => true | .bl _ => true | .int _ => true | .str _ => true | _ => false
def toV : T -> V
 | .bl b => .bl b | .int i => .int i | .str x => .str x | _ => .non
theorem Rb.flat {F : Addr -> Prop} {H : Hp} {v : V} {t : T} (r : Rb F H v t) (h : aQ0 t = true) : v = toV t /\ bR0 v = true := by
 cases t with
 | non => cases r.non_; exact ⟨rfl, rfl⟩
 | bl b => cases r.bl_; exact ⟨rfl, rfl⟩
 | int i => cases r.int_; exact ⟨rfl, rfl⟩
 | str x => cases r.str_; exact ⟨rfl, rfl⟩
 | _ => cases h
theorem Rps.flat {F : Addr -> Prop} {H : Hp} : ∀ {xs : List V} {ts : List T}, Rps F H xs ts -> ts.all aQ0 = true -> xs = ts.map toV /\ xs.all bR0 = true
 | _, _, .nil, _ => ⟨rfl, rfl⟩
 | _, _, .cons h r, e => by
  rw [List.all_cons, Bool.and_eq_true] at e
  obtain ⟨h1, h2⟩ := (Rb.v h).flat e.1
  obtain ⟨h3, h4⟩ := Rps.flat r e.2
  rw [List.map_cons, List.all_cons, <- h1, <- h3, h2, h4]
  exact ⟨rfl, rfl⟩
def eqLW (f : T -> T -> Option Bool) : List T -> List T -> Option Bool
 | [], [] => some true
 | [], _ :: _ => some false
 | _ :: _, [] => some false
 | a :: as, b :: bs => (f a b).bind fun x => (eqLW f as bs).bind fun r => some (x && r)
def eqT : Nat -> T -> T -> Option Bool
 | 0, _, _ => none
 | n + 1, .tup xs, .tup ys => eqLW (eqT n) xs ys
 | n + 1, .lst xs, .lst ys => eqLW (eqT n) xs ys
 | _ + 1, a, b => if aQ0 a && aQ0 b then some (eqV (toV a) (toV b)) else none
theorem dU0 {f : T -> T -> Option Bool} (hf : ∀ t b, f t t = some b -> b = true) : ∀ (ts : List T) (b : Bool), eqLW f ts ts = some b -> b = true
 | [], b, h => by cases h; rfl
 | t :: ts, b, h => by
  unfold eqLW at h
  cases q : f t t with
  | none => rw [q] at h; cases h
  | some x =>
   rw [q] at h
   simp only [Option.bind_some] at h
   cases q2 : eqLW f ts ts with
   | none => rw [q2] at h; cases h
   | some r =>
    rw [q2] at h
    cases h
    rw [hf t x q, dU0 hf ts r q2]
    rfl
theorem dC0 {t : T} (h : aQ0 t = true) : eqV (toV t) (toV t) = true := by
 cases t <;> simp [toV, eqV, aQ0] at *
theorem eY0 : ∀ (n : Nat) (t : T) (b : Bool), eqT n t t = some b -> b = true
 | 0, _, _, h => by cases h
 | n + 1, t, b, h => by
  cases t with
  | tup ts => exact dU0 (eY0 n) ts b h
  | lst ts => exact dU0 (eY0 n) ts b h
  | dct kvs => cases h
  | ins C fs => cases h
  | exc C => cases h
  | scr ns => cases h
  | non => cases h; rfl
  | bl c => cases h; exact dC0 (t := .bl c) rfl
  | int i => cases h; exact dC0 (t := .int i) rfl
  | str x => cases h; exact dC0 (t := .str x) rfl
theorem dX0 : ∀ {xs ys : List Int}, xs.map V.int = ys.map V.int -> xs = ys
 | [], [], _ => rfl
 | [], _ :: _, h => by cases h
 | _ :: _, [], h => by cases h
 | x :: xs, y :: ys, h => by
  rw [List.map_cons, List.map_cons] at h
  obtain ⟨h1, h2⟩ := List.cons.inj h
  rw [V.int.inj h1, dX0 h2]
mutual
theorem Rp.inj {F F' : Addr -> Prop} {H : Hp} : ∀ {v : V} {t t' : T}, Rp F H v t -> Rp F' H v t' -> t = t'
 | _, _, _, .non, h => by cases h; rfl
 | _, _, _, .bl _, h => by cases h; rfl
 | _, _, _, .int _, h => by cases h; rfl
 | _, _, _, .str _, h => by cases h; rfl
 | _, _, _, .tup e r, h => by
  cases h with
  | tup e' r' => rw [e] at e'; cases e'; rw [Rps.inj r r']
  | lst _ e' _ => rw [e] at e'; cases e'
  | dct _ e' _ => rw [e] at e'; cases e'
  | ins _ e' _ => rw [e] at e'; cases e'
  | exc _ e' _ => rw [e] at e'; cases e'
  | scr _ e' => rw [e] at e'; cases e'
 | _, _, _, .lst _ e r, h => by
  cases h with
  | lst _ e' r' => rw [e] at e'; cases e'; rw [Rps.inj r r']
  | tup e' _ => rw [e] at e'; cases e'
  | dct _ e' _ => rw [e] at e'; cases e'
  | ins _ e' _ => rw [e] at e'; cases e'
  | exc _ e' _ => rw [e] at e'; cases e'
  | scr _ e' => rw [e] at e'; cases e'
 | _, _, _, .dct _ e r, h => by
  cases h with
  | dct _ e' r' => rw [e] at e'; cases e'; rw [Rpk.inj r r']
  | tup e' _ => rw [e] at e'; cases e'
  | lst _ e' _ => rw [e] at e'; cases e'
  | ins _ e' _ => rw [e] at e'; cases e'
  | exc _ e' _ => rw [e] at e'; cases e'
  | scr _ e' => rw [e] at e'; cases e'
 | _, _, _, .ins _ e r, h => by
  cases h with
  | ins _ e' r' => rw [e] at e'; cases e'; rw [Rpf.inj r r']
  | exc _ e' _ => rw [e] at e'; cases e'
  | scr _ e' => rw [e] at e'; cases e'
  | tup e' _ => rw [e] at e'; cases e'
  | lst _ e' _ => rw [e] at e'; cases e'
  | dct _ e' _ => rw [e] at e'; cases e'
 | _, _, _, .exc _ e c, h => by
  cases h with
  | exc _ e' c' => rw [e] at e'; cases e'; rw [c] at c'; cases c'; rfl
  | scr _ e' => rw [e] at e'; cases e'
  | ins _ e' _ => rw [e] at e'; cases e'
  | tup e' _ => rw [e] at e'; cases e'
  | lst _ e' _ => rw [e] at e'; cases e'
  | dct _ e' _ => rw [e] at e'; cases e'
 | _, _, _, .scr _ e, h => by
  cases h with
  | scr _ e' => rw [e] at e'; have z := HO.lst.inj (HO.frz.inj (Option.some.inj e')).2; rw [dX0 z]
  | exc _ e' _ => rw [e] at e'; cases e'
  | ins _ e' _ => rw [e] at e'; cases e'
  | tup e' _ => rw [e] at e'; cases e'
  | lst _ e' _ => rw [e] at e'; cases e'
  | dct _ e' _ => rw [e] at e'; cases e'
theorem Rps.inj {F F' : Addr -> Prop} {H : Hp} : ∀ {v : List V} {t t' : List T}, Rps F H v t -> Rps F' H v t' -> t = t'
 | _, _, _, .nil, h => by cases h; rfl
 | _, _, _, .cons h r, h' => by cases h' with | cons h2 r2 => rw [Rp.inj h h2, Rps.inj r r2]
theorem Rpk.inj {F F' : Addr -> Prop} {H : Hp} : ∀ {v : List (Key × V)} {t t' : List (Str × T)}, Rpk F H v t -> Rpk F' H v t' -> t = t'
 | _, _, _, .nil, h => by cases h; rfl
 | _, _, _, .cons h r, h' => by cases h' with | cons h2 r2 => rw [Rp.inj h h2, Rpk.inj r r2]
theorem Rpf.inj {F F' : Addr -> Prop} {H : Hp} : ∀ {v : List (Str × V)} {t t' : List (Str × T)}, Rpf F H v t -> Rpf F' H v t' -> t = t'
 | _, _, _, .nil, h => by cases h; rfl
 | _, _, _, .cons h r, h' => by cases h' with | cons h2 r2 => rw [Rp.inj h h2, Rpf.inj r r2]
end
theorem Rb.inj {F : Addr -> Prop} {H : Hp} {v : V} {t t' : T} (h : Rb F H v t) (h' : Rb F H v t') : t = t' := by
 cases h with
 | v h =>
  cases h' with
  | v h' => exact h.inj h'
  | o h' =>
   cases h' with
   | lst e r => cases h with
    | lst _ e' r' => rw [e] at e'; cases e'; rw [r'.inj r]
    | tup e' _ => rw [e] at e'; cases e'
    | dct _ e' _ => rw [e] at e'; cases e'
    | ins _ e' _ => rw [e] at e'; cases e'
    | exc _ e' _ => rw [e] at e'; cases e'
    | scr _ e' => rw [e] at e'; cases e'
   | dct e r => cases h with
    | lst _ e' r' => rw [e] at e'; cases e'
    | tup e' _ => rw [e] at e'; cases e'
    | dct _ e' _ => rw [e] at e'; cases e'
    | ins _ e' _ => rw [e] at e'; cases e'
    | exc _ e' _ => rw [e] at e'; cases e'
    | scr _ e' => rw [e] at e'; cases e'
   | ins e r => cases h with
    | lst _ e' r' => rw [e] at e'; cases e'
    | tup e' _ => rw [e] at e'; cases e'
    | dct _ e' _ => rw [e] at e'; cases e'
    | ins _ e' r' => rw [e] at e'; cases e'; rw [r'.inj r]
    | exc _ e' _ => rw [e] at e'; cases e'
    | scr _ e' => rw [e] at e'; cases e'
 | o h =>
  cases h' with
  | v h' =>
   cases h with
   | lst e r => cases h' with
    | lst _ e' r' => rw [e] at e'; cases e'; rw [r'.inj r]
    | tup e' _ => rw [e] at e'; cases e'
    | dct _ e' _ => rw [e] at e'; cases e'
    | ins _ e' _ => rw [e] at e'; cases e'
    | exc _ e' _ => rw [e] at e'; cases e'
    | scr _ e' => rw [e] at e'; cases e'
   | dct e r => cases h' with
    | lst _ e' r' => rw [e] at e'; cases e'
    | tup e' _ => rw [e] at e'; cases e'
    | dct _ e' _ => rw [e] at e'; cases e'
    | ins _ e' _ => rw [e] at e'; cases e'
    | exc _ e' _ => rw [e] at e'; cases e'
    | scr _ e' => rw [e] at e'; cases e'
   | ins e r => cases h' with
    | lst _ e' r' => rw [e] at e'; cases e'
    | tup e' _ => rw [e] at e'; cases e'
    | dct _ e' _ => rw [e] at e'; cases e'
    | ins _ e' r' => rw [e] at e'; cases e'; rw [r'.inj r]
    | exc _ e' _ => rw [e] at e'; cases e'
    | scr _ e' => rw [e] at e'; cases e'
  | o h' =>
   cases h with
   | lst e r => cases h' with
    | lst e' r' => rw [e] at e'; cases e'; rw [r.inj r']
    | dct e' r' => rw [e] at e'; cases e'
    | ins e' r' => rw [e] at e'; cases e'
   | dct e r => cases h' with
    | lst e' r' => rw [e] at e'; cases e'
    | dct e' r' => rw [e] at e'; cases e'; rw [r.inj r']
    | ins e' r' => rw [e] at e'; cases e'
   | ins e r => cases h' with
    | lst e' r' => rw [e] at e'; cases e'
    | dct e' r' => rw [e] at e'; cases e'
    | ins e' r' => rw [e] at e'; cases e'; rw [r.inj r']
theorem hK0 {f : T -> T -> Option Bool} : ∀ {xs ys : List T} {b : Bool}, eqLW f xs ys = some b -> (∀ (j : Nat) x y, xs[j]? = some x -> ys[j]? = some y -> ∃ c, f x y = some c) /\
   ∀ e : Nat -> Bool, (∀ (j : Nat) x y, xs[j]? = some x -> ys[j]? = some y -> f x y = some (e j)) -> b = ((List.range (min xs.length ys.length)).all e && xs.length == ys.length)
 | [], [], b, h => by cases h; exact ⟨fun j x y e => by simp at e, fun e _ => by simp⟩
 | [], _ :: _, b, h => by cases h; exact ⟨fun j x y e => by simp at e, fun e _ => by simp⟩
 | _ :: _, [], b, h => by cases h; exact ⟨fun j x y _ e => by simp at e, fun e _ => by simp⟩
 | a :: as, c :: cs, b, h => by
  unfold eqLW at h
  cases q : f a c with
  | none => rw [q] at h; cases h
  | some x =>
   rw [q] at h
   simp only [Option.bind_some] at h
   cases q2 : eqLW f as cs with
   | none => rw [q2] at h; cases h
   | some r =>
    rw [q2] at h
    cases h
    obtain ⟨h1, h2⟩ := hK0 q2
    refine ⟨fun j y z e1 e2 => ?_, fun e he => ?_⟩
    ·cases j with
     | zero => simp at e1 e2; subst e1 e2; exact ⟨x, q⟩
     | succ j => exact h1 j y z (by simpa using e1) (by simpa using e2)
    ·have e0 := he 0 a c rfl rfl
     rw [q] at e0
     cases e0
     have e1 := h2 (fun j => e (j + 1)) fun j y z e1 e2 => he (j + 1) y z (by simpa using e1) (by simpa using e2)
     rw [e1, List.length_cons, List.length_cons, Nat.succ_min_succ, List.range_succ_eq_map, List.all_cons, List.all_map]
     simp [Function.comp_def, Bool.and_assoc]
section
variable {X : Cx} {pins : List (Addr × Obj)} {σ : St} {H : Hp} {s : Shared} {F : Addr -> Prop}
theorem cJ0 {A : Around} {n : Nat} {xs ys : List V} {ts us : List T} {its jts : List Value} {b : Bool} (I : Inv X pins σ H s)
  (ih : ∀ (t1 t2 : T) (b : Bool) (A : Around) (x y : V) (u v : Value), eqT n t1 t2 = some b -> A.units + n < cLine -> Rb F H x t1 -> Rb F H y t2 -> RelV x u -> RelV y v -> SeqAt.EqAt A s u v b)
  (hu : A.units + (n + 1) < cLine) (r1 : Rps F H xs ts) (r2 : Rps F H ys us) (v1 : Vals xs its) (v2 : Vals ys jts) (e : eqLW (eqT n) ts us = some b) :
  ∃ f : Nat -> Bool, (∀ (j : Nat) (h1 : j < its.toArray.size) (h2 : j < jts.toArray.size), SeqAt.EqAt A.in1 s its.toArray[j] jts.toArray[j] (f j)) /\ b = ((List.range (min its.toArray.size jts.toArray.size)).all f && its.toArray.size == jts.toArray.size) := by
 obtain ⟨h1, h2⟩ := hK0 e
 have l1 : its.toArray.size = ts.length := by rw [List.size_toArray, <- v1.length, r1.length]
 have l2 : jts.toArray.size = us.length := by rw [List.size_toArray, <- v2.length, r2.length]
 refine ⟨fun j => match ts[j]?, us[j]? with | some x, some y => (eqT n x y).getD false | _, _ => false, fun j g1 g2 => ?_, ?_⟩
 ·have e1 : ts[j]? = some ts[j] := by simp [l1 ▸ g1]
  have e2 : us[j]? = some us[j] := by simp [l2 ▸ g2]
  obtain ⟨c, hc⟩ := h1 j _ _ e1 e2
  obtain ⟨x, hx, rx⟩ := r1.get e1
  obtain ⟨y, hy, ry⟩ := r2.get e2
  obtain ⟨u, hu1, ru⟩ := v1.get hx
  obtain ⟨v, hv1, rv⟩ := v2.get hy
  have q := ih _ _ c A.in1 x y u v hc (by show A.units + 1 + n < cLine; omega) (.v rx) (.v ry) ru rv
  simp only [e1, e2, hc, Option.getD_some]
  have eu : its.toArray[j] = u := by
   have : its[j]? = some its[j] := by simp [by simpa using g1]
   rw [this] at hu1
   simpa using hu1
  have ev : jts.toArray[j] = v := by
   have : jts[j]? = some jts[j] := by simp [by simpa using g2]
   rw [this] at hv1
   simpa using hv1
  rw [eu, ev]
  exact q
 ·rw [l1, l2]
  exact h2 _ fun j x y e1 e2 => by
   obtain ⟨c, hc⟩ := h1 j x y e1 e2
   simp only [e1, e2, hc, Option.getD_some]
theorem dQ0 {κ : Type} [DecidableEq κ] : ∀ {kb : List (κ × Value)} {j : Nat} {k : κ} {v : Value}, (kb.map (·.1)).Nodup -> kb[j]? = some (k, v) -> valueAt kb k = some v
 | [], _, _, _, _, e => by simp at e
 | p :: r, 0, k, v, _, e => by
  simp at e
  subst e
  simp [valueAt]
 | p :: r, j + 1, k, v, nd, e => by
  rw [List.map_cons, List.nodup_cons] at nd
  have e : r[j]? = some (k, v) := by simpa using e
  have ne : ¬ p.1 = k := fun z => nd.1 (by rw [z]; exact List.mem_map.mpr ⟨(k, v), List.mem_of_getElem? e, rfl⟩)
  have ih := dQ0 nd.2 e
  simp only [valueAt, List.find?_cons] at ih ⊢
  simpa [ne] using ih
theorem dr0 : ∀ {kvs : List (Key × V)} {kts : List (Str × T)} {vs : List (Key × Value)}, Rpk F H kvs kts -> KV kvs vs -> ∃ (xs : List V) (its : List Value), Rps F H xs (kts.map (·.2)) /\ Vals xs its /\ vs = (kts.map (·.1)).zipWith (fun k v => ((Sum.inr k : Key), v)) its /\ its.length = kts.length
 | _, _, _, .nil, r => by cases r; exact ⟨[], [], .nil, .nil, rfl, rfl⟩
 | _, _, _, .cons (k := k) h t, r => by
  cases r with
  | @cons a b as bs hab rr =>
   obtain ⟨xs, its, h1, h2, h3, h4⟩ := dr0 t rr
   obtain ⟨b1, b2⟩ := b
   obtain ⟨hk, hv⟩ := hab
   have hk : (Sum.inr k : Key) = b1 := hk
   subst hk
   exact ⟨_, _, .cons h h1, .cons hv h2, by rw [h3]; rfl, by simp [h4]⟩
theorem gP0 (I : Inv X pins σ H s) : ∀ (n : Nat) (t1 t2 : T) (b : Bool) (A : Around) (x y : V) (u v : Value), eqT n t1 t2 = some b -> A.units + n < cLine -> Rb F H x t1 -> Rb F H y t2 -> RelV x u -> RelV y v -> SeqAt.EqAt A s u v b := by
 intro n
 induction n with
 | zero => intro t1 t2 b A x y u v h; cases h
 | succ n ih =>
  intro t1 t2 b A x y u v h hu r1 r2 ru rv
  have hu0 : A.units < cLine := by omega
  have same : ∀ {a : Addr}, x = .ref a -> y = .ref a -> SeqAt.EqAt A s u v b := fun {a} e1 e2 => by
   subst e1 e2
   cases ru; cases rv
   have e := r1.inj r2
   subst e
   rw [eY0 _ _ _ h]
   exact SeqAt.EqAt.same _
  have flatc : (if aQ0 t1 && aQ0 t2 then some (eqV (toV t1) (toV t2)) else none) = some b -> SeqAt.EqAt A s u v b := fun h => by
   split at h
   ·rename_i hf
    rw [Bool.and_eq_true] at hf
    cases h
    obtain ⟨e1, f1⟩ := r1.flat hf.1
    obtain ⟨e2, f2⟩ := r2.flat hf.2
    subst e1 e2
    exact mj0 ru rv f1 f2
   ·cases h
  cases t1 with
  | tup xs =>
   cases t2 with
   | tup ys =>
    obtain ⟨a, vs, rfl, ha, q1⟩ := r1.tup_
    obtain ⟨c, ws, rfl, hc, q2⟩ := r2.tup_
    by_cases hac : a = c
    ·exact same rfl (by rw [hac])
    ·cases ru; cases rv
     obtain ⟨its, w1, p1, _⟩ := I.tuple (SqT.of ha)
     obtain ⟨jts, w2, p2, _⟩ := I.tuple (SqT.of hc)
     obtain ⟨f, hf, e⟩ := cJ0 (A := A) I ih hu q1 q2 w1 w2 h
     rw [e]
     exact SeqAt.EqAt.of_refs hac (SeqAt.RcAt.tuples p1 p2 hu0 hf)
   | _ => exact flatc h
  | lst xs =>
   cases t2 with
   | lst ys =>
    obtain ⟨a, vs, rfl, ha, q1⟩ := r1.lst_
    obtain ⟨c, ws, rfl, hc, q2⟩ := r2.lst_
    by_cases hac : a = c
    ·exact same rfl (by rw [hac])
    ·cases ru; cases rv
     obtain ⟨its, w1, p1, _⟩ := I.list (SqL.of ha)
     obtain ⟨jts, w2, p2, _⟩ := I.list (SqL.of hc)
     obtain ⟨f, hf, e⟩ := cJ0 (A := A) I ih hu q1 q2 w1 w2 h
     rw [e]
     by_cases hsz : its.toArray.size = jts.toArray.size
     ·rw [hsz, Nat.min_self, beq_self_eq_true, Bool.and_true]
      have := SeqAt.EqAt.of_refs hac (SeqAt.RcAt.lists p1.isList p2.isList hsz hu0 hf)
      rw [hsz] at this
      exact this
     ·have hb : (its.toArray.size == jts.toArray.size) = false := by simpa using hsz
      rw [hb, Bool.and_false]
      exact SeqAt.EqAt.of_refs hac (SeqAt.RcAt.lists_lengths p1.isList p2.isList (by simpa using hsz) hu0)
   | _ => exact flatc h
  | dct xs => exact flatc h
  | ins C fs => exact flatc h
  | exc C => exact flatc h
  | scr ns => exact flatc h
  | non => exact flatc (by cases t2 <;> exact h)
  | bl c => exact flatc (by cases t2 <;> exact h)
  | int i => exact flatc (by cases t2 <;> exact h)
  | str z => exact flatc (by cases t2 <;> exact h)
theorem mo0 (hu : X.A.units + 20 < cLine) : OpR X (compareOp .Eq) (fun x y H Q => ∃ F t1 t2 b, Rb F H x t1 /\ Rb F H y t2 /\ aQ0 t1 = false /\ eqT 9 t1 t2 = some b /\ Q (.bl b) H) := by
 intro pins s σ H x y u v Q I ru rv h
 obtain ⟨F, t1, t2, b, r1, r2, nf, h, q⟩ := h
 have hu0 : X.A.units < cLine := by omega
 have fin : EP X pins σ Q (.bool b) s := ⟨.bl b, H, I, rfl, q⟩
 have ih := gP0 (F := F) I 8
 cases t1 with
 | tup xs =>
  cases t2 with
  | tup ys =>
   obtain ⟨a, vs, rfl, ha, q1⟩ := r1.tup_
   obtain ⟨c, ws, rfl, hc, q2⟩ := r2.tup_
   cases ru; cases rv
   obtain ⟨its, w1, p1, _⟩ := I.tuple (SqT.of ha)
   obtain ⟨jts, w2, p2, _⟩ := I.tuple (SqT.of hc)
   obtain ⟨f, hf, e⟩ := cJ0 (A := X.A) I ih (by omega) q1 q2 w1 w2 h
   rw [e] at fin
   exact SeqAt.eq_tupleAt p1 p2 hu0 hf fin
  | _ => cases h
 | lst xs =>
  cases t2 with
  | lst ys =>
   obtain ⟨a, vs, rfl, ha, q1⟩ := r1.lst_
   obtain ⟨c, ws, rfl, hc, q2⟩ := r2.lst_
   cases ru; cases rv
   obtain ⟨its, w1, p1, _⟩ := I.list (SqL.of ha)
   obtain ⟨jts, w2, p2, _⟩ := I.list (SqL.of hc)
   obtain ⟨f, hf, e⟩ := cJ0 (A := X.A) I ih (by omega) q1 q2 w1 w2 h
   rw [e] at fin
   by_cases hsz : its.toArray.size = jts.toArray.size
   ·rw [<- hsz, Nat.min_self, beq_self_eq_true, Bool.and_true] at fin
    exact SeqAt.eq_listAt p1.isList p2.isList hsz hu0 hf fin
   ·have hb : (its.toArray.size == jts.toArray.size) = false := by simpa using hsz
    rw [hb, Bool.and_false] at fin
    exact SeqAt.eq_list_lengthsAt p1.isList p2.isList (by simpa using hsz) hu0 fin
  | _ => cases h
 | _ => first | (cases nf; done) | (cases h; done) | (cases t2 <;> cases h)
theorem oN0 (hu : X.A.units + 20 < cLine) : OpR X (compareOp .NotEq) (fun x y H Q => ∃ F t1 t2 b, Rb F H x t1 /\ Rb F H y t2 /\ aQ0 t1 = false /\ eqT 9 t1 t2 = some b /\ Q (.bl (!b)) H) := by
 intro pins s σ H x y u v Q I ru rv h
 obtain ⟨F, t1, t2, b, r1, r2, nf, h, q⟩ := h
 have hu0 : X.A.units < cLine := by omega
 have fin : EP X pins σ Q (.bool (!b)) s := ⟨.bl (!b), H, I, rfl, q⟩
 have ih := gP0 (F := F) I 8
 cases t1 with
 | tup xs =>
  cases t2 with
  | tup ys =>
   obtain ⟨a, vs, rfl, ha, q1⟩ := r1.tup_
   obtain ⟨c, ws, rfl, hc, q2⟩ := r2.tup_
   cases ru; cases rv
   obtain ⟨its, w1, p1, _⟩ := I.tuple (SqT.of ha)
   obtain ⟨jts, w2, p2, _⟩ := I.tuple (SqT.of hc)
   obtain ⟨f, hf, e⟩ := cJ0 (A := X.A) I ih (by omega) q1 q2 w1 w2 h
   rw [e] at fin
   exact SeqAt.RcNeAt.tuples p1 p2 hu0 hf _ _ _ _ fin
  | _ => cases h
 | lst xs =>
  cases t2 with
  | lst ys =>
   obtain ⟨a, vs, rfl, ha, q1⟩ := r1.lst_
   obtain ⟨c, ws, rfl, hc, q2⟩ := r2.lst_
   cases ru; cases rv
   obtain ⟨its, w1, p1, _⟩ := I.list (SqL.of ha)
   obtain ⟨jts, w2, p2, _⟩ := I.list (SqL.of hc)
   obtain ⟨f, hf, e⟩ := cJ0 (A := X.A) I ih (by omega) q1 q2 w1 w2 h
   rw [e] at fin
   by_cases hsz : its.toArray.size = jts.toArray.size
   ·rw [<- hsz, Nat.min_self, beq_self_eq_true, Bool.and_true] at fin
    exact SeqAt.RcNeAt.lists p1.isList p2.isList hsz hu0 hf _ _ _ _ fin
   ·have hb : (its.toArray.size == jts.toArray.size) = false := by simpa using hsz
    rw [hb, Bool.and_false] at fin
    exact SeqAt.RcNeAt.lists_lengths p1.isList p2.isList (by simpa using hsz) hu0 _ _ _ _ fin
  | _ => cases h
 | _ => first | (cases nf; done) | (cases h; done) | (cases t2 <;> cases h)
end
def φEq (s t : T) : Option T := if aQ0 s && aQ0 t then (if scal (toV s) (toV t) then some (.bl (decide (toV s = toV t))) else none) else if aQ0 s then none else (eqT 9 s t).map .bl
def φNe (s t : T) : Option T := if aQ0 s && aQ0 t then (if scal (toV s) (toV t) then some (.bl (!decide (toV s = toV t))) else none) else if aQ0 s then none else (eqT 9 s t).map fun b => .bl (!b)
theorem o_eq : Op2 (fun x y H Q => rEq x y H Q \/ ∃ F t1 t2 b, Rb F H x t1 /\ Rb F H y t2 /\ aQ0 t1 = false /\ eqT 9 t1 t2 = some b /\ Q (.bl b) H) φEq := by
 intro F H x y s t u Q tk rx ry h k
 unfold φEq at h
 split at h
 ·rename_i hf
  rw [Bool.and_eq_true] at hf
  split at h
  ·cases h
   obtain ⟨e1, _⟩ := rx.flat hf.1
   obtain ⟨e2, _⟩ := ry.flat hf.2
   subst e1 e2
   exact .inl ⟨by assumption, k F _ H (.refl tk) (.bl _)⟩
  ·cases h
 ·split at h
  ·cases h
  ·rename_i nf
   cases q : eqT 9 s t with
   | none => rw [q] at h; cases h
   | some b => rw [q] at h; cases h; exact .inr ⟨F, s, t, b, rx, ry, by simpa using nf, q, k F _ H (.refl tk) (.bl _)⟩
theorem o_ne : Op2 (fun x y H Q => rNe x y H Q \/ ∃ F t1 t2 b, Rb F H x t1 /\ Rb F H y t2 /\ aQ0 t1 = false /\ eqT 9 t1 t2 = some b /\ Q (.bl (!b)) H) φNe := by
 intro F H x y s t u Q tk rx ry h k
 unfold φNe at h
 split at h
 ·rename_i hf
  rw [Bool.and_eq_true] at hf
  split at h
  ·cases h
   obtain ⟨e1, _⟩ := rx.flat hf.1
   obtain ⟨e2, _⟩ := ry.flat hf.2
   subst e1 e2
   exact .inl ⟨by assumption, k F _ H (.refl tk) (.bl _)⟩
  ·cases h
 ·split at h
  ·cases h
  ·rename_i nf
   cases q : eqT 9 s t with
   | none => rw [q] at h; cases h
   | some b => rw [q] at h; cases h; exact .inr ⟨F, s, t, b, rx, ry, by simpa using nf, q, k F _ H (.refl tk) (.bl _)⟩
section
variable {X : Cx} {Y : Fx} {a b c : Expr} {pos : Pos} {f g h : En -> Option T}
theorem gc0 (hu : X.A.units + 20 < cLine) (ha : BE X Y a f) (hb : BE X Y b g) : QT X Y (.Compare a [.Eq] [b] pos) (qB (e2 φEq f g)) := ek0 (op_eq.or (mo0 hu)) o_eq ha hb (ew0 _)
theorem eM0 (hu : X.A.units + 20 < cLine) (ha : BE X Y a f) (hb : BE X Y b g) : QT X Y (.Compare a [.NotEq] [b] pos) (qB (e2 φNe f g)) := ek0 (op_ne.or (oN0 hu)) o_ne ha hb (ew0 _)
theorem se_eq (hu : X.A.units + 20 < cLine) (ha : BE X Y a f) (hb : BE X Y b g) : SE X Y (.Compare a [.Eq] [b] pos) (e2 φEq f g) := mk0 (op_eq.or (mo0 hu)) o_eq ha hb (ew0 _)
theorem lJ0 (ha : BE X Y a f) (hb : BE X Y b g) : QT X Y (.Compare a [.Lt] [b] pos) (qB (e2 φLt f g)) := ek0 op_lt o_lt ha hb (ew0 _)
theorem qt_gt (ha : BE X Y a f) (hb : BE X Y b g) : QT X Y (.Compare a [.Gt] [b] pos) (qB (e2 φGt f g)) := ek0 op_gt o_gt ha hb (ew0 _)
theorem bp0 (ha : BE X Y a f) (hb : BE X Y b g) : SE X Y (.BinOp a .Add b pos) (e2 φAdd f g) := ib0 ol0 o_add ha hb
theorem pe0 (ha : BE X Y a f) (hb : BE X Y b g) : SE X Y (.BinOp a .Sub b pos) (e2 φSub f g) := ib0 pb0 o_sub ha hb
theorem dK0 (ha : BE X Y a f) (hb : BE X Y b g) : SE X Y (.BinOp a .Mult b pos) (e2 φMul f g) := ib0 pi0 o_mul ha hb
theorem bA0 (ha : BE X Y a f) (hb : BE X Y b g) : SE X Y (.BinOp a .Mod b pos) (e2 φMod f g) := ib0 pk0 o_mod ha hb
theorem ml0 (ha : BE X Y a f) (hb : BE X Y b g) : SE X Y (.BinOp a .FloorDiv b pos) (e2 φDiv f g) := ib0 mO0 o_div ha hb
def φIn (neg : Bool) (s t : T) : Option T := match t with
 | .lst ts => if aQ0 s && ts.all aQ0 then some (.bl (if neg then !(ts.any fun y => eqV (toV y) (toV s)) else ts.any fun y => eqV (toV y) (toV s))) else none
 | .tup ts => if aQ0 s && ts.all aQ0 then some (.bl (if neg then !(ts.any fun y => eqV (toV y) (toV s)) else ts.any fun y => eqV (toV y) (toV s))) else none
 | _ => none
theorem jR0 (x : V) (ts : List T) : inV x (ts.map toV) = ts.any fun y => eqV (toV y) x := by
 unfold inV
 rw [List.any_map]
 rfl
theorem o_in {K : PySem.W.Frag} (neg : Bool) : Op2 (rIn K neg) (φIn neg) := by
 intro F H x y s t u Q tk rx ry h k
 unfold φIn at h
 split at h
 ·split at h
  ·rename_i hf
   rw [Bool.and_eq_true] at hf
   cases h
   obtain ⟨a, xs, rfl, ha, r⟩ := ry.lst_
   obtain ⟨e1, f1⟩ := rx.flat hf.1
   obtain ⟨e2, f2⟩ := r.flat hf.2
   refine ⟨a, xs, rfl, .inl (SqL.of ha), f1, f2, ?_⟩
   rw [e1, e2, jR0]
   exact k F _ H (.refl tk) (.bl _)
  ·cases h
 ·split at h
  ·rename_i hf
   rw [Bool.and_eq_true] at hf
   cases h
   obtain ⟨a, xs, rfl, ha, r⟩ := ry.tup_
   obtain ⟨e1, f1⟩ := rx.flat hf.1
   obtain ⟨e2, f2⟩ := r.flat hf.2
   refine ⟨a, xs, rfl, .inr (SqT.of ha), f1, f2, ?_⟩
   rw [e1, e2, jR0]
   exact k F _ H (.refl tk) (.bl _)
  ·cases h
 ·cases h
theorem qt_in (ha : BE X Y a f) (hb : BE X Y b g) (hm : behindInMarks .In b = false := by with_unfolding_all rfl) : QT X Y (.Compare a [.In] [b] pos) (qB (e2 (φIn false) f g)) := ek0 iP0 (o_in false) ha hb hm
theorem lm0 (ha : BE X Y a f) (hb : BE X Y b g) (hm : behindInMarks .NotIn b = false := by with_unfolding_all rfl) : QT X Y (.Compare a [.NotIn] [b] pos) (qB (e2 (φIn true) f g)) := ek0 dt0 (o_in true) ha hb hm
theorem hL0 (ha : BE X Y a f) (hb : BE X Y b g) (hm : behindInMarks .NotIn b = false := by with_unfolding_all rfl) : SE X Y (.Compare a [.NotIn] [b] pos) (e2 (φIn true) f g) := mk0 dt0 (o_in true) ha hb hm
def bW0 (φ φ' : T -> T -> Option T) (f g h : En -> Option T) : En -> Option T := fun ε => (f ε).bind fun s => (g ε).bind fun t => (φ s t).bind fun z => match z with
 | .bl true => (h ε).bind fun u => φ' t u
 | .bl false => some (.bl false)
 | _ => none
theorem gQ0 {r r' : R2} {φ φ' : T -> T -> Option T} (o : Op2 r φ) (o' : Op2 r' φ') (σ : St) (H : Hp) (Q : VK) (q : Tr Y (bW0 φ φ' f g h) σ H Q) : kK0 r r' (TrB Y f) (TrB Y g) (TrB Y h) σ H Q := by
 obtain ⟨F, ε, u, rl, hf, k⟩ := q
 unfold bW0 at hf
 cases q1 : f ε with
 | none => rw [q1] at hf; cases hf
 | some s =>
  cases q2 : g ε with
  | none => rw [q1] at hf; simp only [Option.bind_some, q2] at hf; cases hf
  | some t =>
   rw [q1] at hf
   simp only [Option.bind_some, q2] at hf
   cases q3 : φ s t with
   | none => rw [q3] at hf; cases hf
   | some z =>
    rw [q3] at hf
    simp only [Option.bind_some] at hf
    refine ⟨F, ε, s, rl, q1, fun F1 x H1 m1 r1 => ⟨F1, ε, t, rl.mono m1, q2, fun F2 y H2 m2 r2 => ?_⟩⟩
    refine o F2 H2 x y s t z _ m2.trk (r1.keep m2) r2 q3 fun F3 v H3 m3 r3 => ?_
    split at hf
    ·refine ⟨true, (Rb.v r3).bl_, ?_⟩
     rw [if_pos rfl]
     cases q4 : h ε with
     | none => rw [q4] at hf; cases hf
     | some w =>
      rw [q4] at hf
      simp only [Option.bind_some] at hf
      exact ⟨F3, ε, w, rl.mono ((m1.trans m2).trans m3), q4, fun F4 y' H4 m4 r4 => o' F4 H4 y y' t w u Q m4.trk (r2.keep (m3.trans m4)) r4 hf fun F5 v' H5 m5 r5 => k F5 v' H5 ((((m1.trans m2).trans m3).trans m4).trans m5) r5⟩
    ·cases hf
     refine ⟨false, (Rb.v r3).bl_, ?_⟩
     rw [if_neg Bool.false_ne_true]
     exact k F3 _ H3 ((m1.trans m2).trans m3) (.bl _)
    ·cases hf
theorem lt0 {op op' : CmpOp} {r r' : R2} {φ φ' : T -> T -> Option T} (ho : OpR X (compareOp op) r) (ho' : OpR X (compareOp op') r') (o : Op2 r φ) (o' : Op2 r' φ') (ha : BE X Y a f) (hb : BE X Y b g) (hc : BE X Y c h)
  (hm : lastMarks [op, op'] [b, c] = false := by with_unfolding_all rfl) : SE X Y (.Compare a [op, op'] [b, c] pos) (bW0 φ φ' f g h) := PE.imp (lr0 ho ho' ha hb hc hm) (gQ0 o o')
theorem hs0 {op op' : CmpOp} {r r' : R2} {φ φ' : T -> T -> Option T} (ho : OpR X (compareOp op) r) (ho' : OpR X (compareOp op') r') (o : Op2 r φ) (o' : Op2 r' φ') (ha : BE X Y a f) (hb : BE X Y b g) (hc : BE X Y c h)
  (hm : lastMarks [op, op'] [b, c] = false := by with_unfolding_all rfl) : QT X Y (.Compare a [op, op'] [b, c] pos) (qB (bW0 φ φ' f g h)) := PT.imp (la0 ho ho' ha hb hc hm) (gv0 (gQ0 o o'))
def eOr (f g : En -> Option T) : En -> Option T := fun ε => (f ε).bind fun z => match z with | .bl true => some (.bl true) | .bl false => g ε | _ => none
def eAnd (f g : En -> Option T) : En -> Option T := fun ε => (f ε).bind fun z => match z with | .bl true => g ε | .bl false => some (.bl false) | _ => none
def eNot (f : En -> Option T) : En -> Option T := fun ε => (f ε).bind fun z => match z with | .bl k => some (.bl (!k)) | _ => none
variable {rest : List Expr}
theorem iH0 {op : BoolOp} (ha : SE X Y a f) : SE X Y (.BoolOp op [a] pos) f := oZ0 ha
theorem se_or (ha : SE X Y a f) (hb : SE X Y (.BoolOp .Or (b :: rest) pos) g) : SE X Y (.BoolOp .Or (a :: b :: rest) pos) (eOr f g) := PE.imp (pe_or ha hb) fun σ H Q ⟨F, ε, u, rl, hf, k⟩ => by
 unfold eOr at hf
 cases q1 : f ε with
 | none => rw [q1] at hf; cases hf
 | some z =>
  rw [q1] at hf
  simp only [Option.bind_some] at hf
  refine ⟨F, ε, z, rl, q1, fun F1 v H1 m1 r1 => ?_⟩
  split at hf
  ·cases hf; exact ⟨true, (Rb.v r1).bl_, by rw [if_pos rfl]; exact k F1 _ H1 m1 (.bl _)⟩
  ·exact ⟨false, (Rb.v r1).bl_, by rw [if_neg Bool.false_ne_true]; exact ⟨F1, ε, u, rl.mono m1, hf, fun F2 w H2 m2 r2 => k F2 w H2 (m1.trans m2) r2⟩⟩
  ·cases hf
theorem oC0 (ha : SE X Y a f) (hb : SE X Y (.BoolOp .And (b :: rest) pos) g) : SE X Y (.BoolOp .And (a :: b :: rest) pos) (eAnd f g) := PE.imp (ow0 ha hb) fun σ H Q ⟨F, ε, u, rl, hf, k⟩ => by
 unfold eAnd at hf
 cases q1 : f ε with
 | none => rw [q1] at hf; cases hf
 | some z =>
  rw [q1] at hf
  simp only [Option.bind_some] at hf
  refine ⟨F, ε, z, rl, q1, fun F1 v H1 m1 r1 => ?_⟩
  split at hf
  ·exact ⟨true, (Rb.v r1).bl_, by rw [if_pos rfl]; exact ⟨F1, ε, u, rl.mono m1, hf, fun F2 w H2 m2 r2 => k F2 w H2 (m1.trans m2) r2⟩⟩
  ·cases hf; exact ⟨false, (Rb.v r1).bl_, by rw [if_neg Bool.false_ne_true]; exact k F1 _ H1 m1 (.bl _)⟩
  ·cases hf
theorem oA0 (ha : SE X Y a f) : SE X Y (.UnaryOp .Not a pos) (eNot f) := PE.imp (pf0 ha) fun σ H Q ⟨F, ε, u, rl, hf, k⟩ => by
 unfold eNot at hf
 cases q1 : f ε with
 | none => rw [q1] at hf; cases hf
 | some z =>
  rw [q1] at hf
  simp only [Option.bind_some] at hf
  refine ⟨F, ε, z, rl, q1, fun F1 v H1 m1 r1 => ?_⟩
  split at hf
  ·cases hf; exact ⟨_, (Rb.v r1).bl_, k F1 _ H1 m1 (.bl _)⟩
  ·cases hf
theorem nb0 {x : Str} {u : Value} {v : V} {t : T} (hg : Gl X x) (hm : X.mg x = some u) (r : RelV v u) (hr : ∀ F H, Rp F H v t) (hd : (x == ("__debug__" : Str)) = false := by decide) : SE X Y (.Name x pos) (eC t) := lU0 (mG0 hg hm r hd) hr
end
end L2.BD
set_option Elab.async false
set_option linter.all false
set_option maxRecDepth 100000
set_option maxHeartbeats 4000000
namespace L2.BD
open PySem PySem.Spec PyProof.Rows
inductive Bty : String -> Prop
 | bool : Bty "bool" | int : Bty "int" | str : Bty "str" | list : Bty "list" | tuple : Bty "tuple" | dict : Bty "dict"
def isT (n : String) (t : T) : Option Bool := match t with
 | .non => some false
 | .bl _ => some (n == "bool" || n == "int")
 | .int _ => some (n == "int")
 | .str _ => some (n == "str")
 | .tup _ => some (n == "tuple")
 | .lst _ => some (n == "list")
 | .dct _ => some (n == "dict")
 | .ins _ _ => none
 | .exc _ => none
 | .scr _ => none
theorem ty_of {K : PySem.W.Frag} {F : Addr -> Prop} {H : Hp} {v : V} {t : T} {n : String} {b : Bool} (h : Bty n) (r : Rb F H v t) (e : isT n t = some b) : ∃ u, TyOf K H v u /\ PySem.W.kitOne K u (.type n) = some b := by
 cases t with
 | non => cases r.non_; refine ⟨_, .non, ?_⟩; cases e; cases h <;> rfl
 | bl c => cases r.bl_; refine ⟨_, .bl c, ?_⟩; cases e; cases h <;> rfl
 | int i => cases r.int_; refine ⟨_, .int i, ?_⟩; cases e; cases h <;> rfl
 | str x => cases r.str_; refine ⟨_, .str x, ?_⟩; cases e; cases h <;> rfl
 | tup ts => obtain ⟨a, xs, rfl, ha, _⟩ := r.tup_; refine ⟨_, .tup ha, ?_⟩; cases e; cases h <;> rfl
 | lst ts => obtain ⟨a, xs, rfl, ha, _⟩ := r.lst_; refine ⟨_, .lst ha, ?_⟩; cases e; cases h <;> rfl
 | dct ts =>
  obtain ⟨a, xs, rfl, ha, _⟩ := r.dct_
  rcases ha with ha | ⟨o, ha⟩
  ·refine ⟨_, .dK ha, ?_⟩; cases e; cases h <;> rfl
  ·refine ⟨_, .fD ha, ?_⟩; cases e; cases h <;> rfl
 | ins C fs => cases e
 | exc C => cases e
 | scr ns => cases e
section
variable {X : Cx} {Y : Fx} {e a b : Expr} {es : List Expr} {pos p p2 : Pos} {f g : En -> Option T} {fa : En -> Option (List T)}
theorem gd0 : di0 X (.builtin "isinstance") (fun xs H Q => ∃ x n t c, xs = [x, .ty n] /\ TyOf X.K H x t /\ PySem.W.kitOne X.K t (.type n) = some c /\ Q (.bl c) H) := by
 intro pins s σ H xs us Q I r h
 obtain ⟨x, n, t, c, rfl, ty, e, q⟩ := h
 obtain ⟨u, w', rfl, rx, ry⟩ := lf0 r
 cases ry
 exact jK0 I rx ty e fun tk => ⟨.bl c, H, I.tok _, rfl, q⟩
def eIs (n : String) (f : En -> Option T) : En -> Option T := fun ε => (f ε).bind fun t => (isT n t).map .bl
theorem dA0 {n : String} {x : Str} (hn : Bty n) (hg : Gl X "isinstance") (hm : X.mg "isinstance" = none) (hgx : Gl X x) (hmx : X.mg x = none) (hvx : bootBuiltins x = some (.type n)) (ha : BE X Y a f)
  (hv : bootBuiltins "isinstance" = some (.builtin "isinstance") := by rfl) (hnn : x ≠ "__name__" := by decide) (hdb : (x == ("__debug__" : Str)) = false := by decide)
  (he : starEach [a, .Name x p2] X.env = [(false, eval a X.env), (false, eval (.Name x p2) X.env)] := by rfl) (hpl : (backTo pos (starEach [.Name x p2] X.env)).any (·.1) = false := by rfl) :
  SE X Y (.Call (.Name "isinstance" p) [a, .Name x p2] [] pos) (eIs n f) :=
 PE.imp (hB0 gd0 hg hm hv (bo0 ha (bo0 (nd0 (v := .ty n) hgx hmx hvx rfl hnn hdb) cI0 rfl) he) (by decide) (by decide) he hpl) fun σ H Q ⟨F, ε, u, rl, hf, k⟩ => by
  unfold eIs at hf
  cases q : f ε with
  | none => rw [q] at hf; cases hf
  | some t =>
   rw [q] at hf
   simp only [Option.bind_some] at hf
   cases q2 : isT n t with
   | none => rw [q2] at hf; cases hf
   | some c =>
    rw [q2] at hf
    cases hf
    refine ⟨F, ε, t, rl, q, fun F1 v H1 m1 r1 => ?_⟩
    obtain ⟨u, h1, h2⟩ := ty_of (K := X.K) hn r1 q2
    exact ⟨v, n, u, c, rfl, h1, h2, k F1 _ H1 m1 (.bl c)⟩
theorem bD0 (hg : Gl X "len") (hm : X.mg "len" = none) (ha : BA X Y [a] fa) (hv : bootBuiltins "len" = some (.builtin "len") := by rfl) (he : starEach [a] X.env = [(false, eval a X.env)] := by rfl) : SE X Y (.Call (.Name "len" p) [a] [] pos) (ao0 φLen fa) := da0 lo0 o_len hg hm hv ha (by decide) (by decide) he rfl
theorem bs0 (hg : Gl X "tuple") (hm : X.mg "tuple" = none) (ha : BA X Y [a] fa) (hv : bootBuiltins "tuple" = some (.type "tuple") := by rfl) (he : starEach [a] X.env = [(false, eval a X.env)] := by rfl) : SE X Y (.Call (.Name "tuple" p) [a] [] pos) (ao0 bj0 fa) := ju0 eT0 nl0 hg hm hv ha (by decide) (by decide) he rfl
theorem eP0 (hg : Gl X "list") (hm : X.mg "list" = none) (ha : BA X Y [a] fa) (hv : bootBuiltins "list" = some (.type "list") := by rfl) (he : starEach [a] X.env = [(false, eval a X.env)] := by rfl) : FE X Y (.Call (.Name "list" p) [a] [] pos) (ao0 dq0 fa) := fG0 fM0 oB0 hg hm hv ha (by decide) (by decide) he rfl
theorem fa0 (hc : X.calm = true) (hg : Gl X "min") (hm : X.mg "min" = none) (ha : BA X Y [a, b] fa) (hv : bootBuiltins "min" = some (.builtin "min") := by rfl) (he : starEach [a, b] X.env = (false, eval a X.env) :: starEach [b] X.env := by rfl) (hpl : (backTo pos (starEach [b] X.env)).any (·.1) = false := by rfl) : SE X Y (.Call (.Name "min" p) [a, b] [] pos) (ao0 dm0 fa) := da0 (kH0 hc) pg0 hg hm hv ha (by decide) (by decide) he hpl
theorem mQ0 (hc : X.calm = true) (hg : Gl X "max") (hm : X.mg "max" = none) (ha : BA X Y [a, b] fa) (hv : bootBuiltins "max" = some (.builtin "max") := by rfl) (he : starEach [a, b] X.env = (false, eval a X.env) :: starEach [b] X.env := by rfl) (hpl : (backTo pos (starEach [b] X.env)).any (·.1) = false := by rfl) : SE X Y (.Call (.Name "max" p) [a, b] [] pos) (ao0 hQ0 fa) := da0 (kO0 hc) oY0 hg hm hv ha (by decide) (by decide) he hpl
def cU0 : List T -> Option (List Int)
 | [] => some []
 | .int i :: ts => (cU0 ts).map (i :: ·)
 | _ => none
theorem eb0 (ns : List Int) : cU0 (ns.map T.int) = some ns := by
 induction ns with
 | nil => rfl
 | cons n ns ih => show (cU0 (ns.map T.int)).map (n :: ·) = _; rw [ih]; rfl
theorem fb0 : ∀ {ts : List T} {ns : List Int}, cU0 ts = some ns -> ts = ns.map T.int
 | [], ns, h => by cases h; rfl
 | .int i :: ts, ns, h => by
  have h : (cU0 ts).map (i :: ·) = some ns := h
  cases q : cU0 ts with
  | none => rw [q] at h; cases h
  | some ms => rw [q] at h; cases h; rw [fb0 q]; rfl
theorem Rps.ints {F : Addr -> Prop} {H : Hp} : ∀ {xs : List V} {ns : List Int}, Rps F H xs (ns.map T.int) -> xs = ns.map V.int
 | _, [], h => by cases h; rfl
 | _, n :: ns, h => by
  cases h with
  | cons h r => cases h; rw [Rps.ints r]; rfl
def φSum : List T -> Option T
 | [.lst ts] => (cU0 ts).map fun ns => .int ns.sum
 | _ => none
theorem iw0 (hc : X.calm = true) : di0 X (.builtin "sum") (fun xs H Q => ∃ (a : Addr) (ns : List Int), xs = [.ref a] /\ SqL X.K H a (ns.map V.int) /\ Q (.int ns.sum) H) := by
 intro pins s σ H xs us Q I r h
 obtain ⟨a, ns, rfl, ha, q⟩ := h
 obtain ⟨u, rfl, ru⟩ := hO0 r
 cases ru
 obtain ⟨its, rv, pl, _⟩ := I.list ha
 have hi : IntsAre its ns := in0 rv
 obtain ⟨zs, hz⟩ := hi.allInts.items
 refine sum_intListG (xs := zs) (I.ok.hd hc) (hz ▸ pl.isList) fun h' tk t' hk => ⟨.int ns.sum, H, I.kept hk, ⟨t', ?_⟩, q⟩
 have g1 : ns = zs.toList.map (·.1) := by
  rw [<- nums_intItems, <- hz]
  exact (show numsOf its.toArray.toList = ns from hi.numsOf).symm
 rw [preSum_eq, List.take_of_length_le (by simp), g1]
theorem o_sum {K : PySem.W.Frag} : OpN (fun xs H Q => ∃ (a : Addr) (ns : List Int), xs = [.ref a] /\ SqL K H a (ns.map V.int) /\ Q (.int ns.sum) H) φSum := by
 intro F H xs ts u Q tk r h k
 unfold φSum at h
 split at h
 ·obtain ⟨x, rfl, rx⟩ := Rbs.one r
  obtain ⟨a, ys, rfl, ha, ry⟩ := rx.lst_
  rename_i ts
  cases q : cU0 ts with
  | none => rw [q] at h; cases h
  | some ns =>
   rw [q] at h; cases h
   rw [fb0 q] at ry
   rw [ry.ints] at ha
   exact ⟨a, ns, rfl, SqL.of ha, k F _ H (.refl tk) (.int _)⟩
 ·cases h
theorem mq0 (hc : X.calm = true) (hg : Gl X "sum") (hm : X.mg "sum" = none) (ha : BA X Y [a] fa) (hv : bootBuiltins "sum" = some (.builtin "sum") := by rfl) (he : starEach [a] X.env = [(false, eval a X.env)] := by rfl) : SE X Y (.Call (.Name "sum" p) [a] [] pos) (ao0 φSum fa) := da0 (iw0 hc) o_sum hg hm hv ha (by decide) (by decide) he rfl
theorem Rp1.lst_ {F : Addr -> Prop} {H : Hp} {a : Addr} {ts : List T} (h : Rp1 F H a (.lst ts)) : ∃ xs, H a = some (.lst xs) /\ Rps F H xs ts := by
 cases h with | lst h r => exact ⟨_, h, r⟩
theorem Rp1.dct_ {F : Addr -> Prop} {H : Hp} {a : Addr} {ts : List (Str × T)} (h : Rp1 F H a (.dct ts)) : ∃ xs, H a = some (.dK xs) /\ Rpk F H xs ts := by
 cases h with | dct h r => exact ⟨_, h, r⟩
theorem Rp1.ins_ {F : Addr -> Prop} {H : Hp} {a C : Addr} {ts : List (Str × T)} (h : Rp1 F H a (.ins C ts)) : ∃ dx xs, H a = some (.ins C dx xs) /\ Rpf F H xs ts := by
 cases h with | ins h r => exact ⟨_, _, h, r⟩
def sApp (i : Nat) (f : En -> Option T) : En -> Option Fl := fun ε => match ε[i]? with
 | some (.ow (.lst ts)) => (f ε).bind fun t => if ts.length < big then some (.nx (ε.set i (.ow (.lst (ts ++ [t]))))) else none
 | _ => none
theorem dP0 {i : Nat} {x : Str} {px apos cpos : Pos} (hx : PE X (.Name x px) (tVar i)) (he : SE X Y e f)
  (hbase : attributeBase (.Name x px) "append" X.env (eval (.Name x px) X.env) = eval (.Name x px) X.env := by rfl)
  (hfew : ((backTo cpos (starEach [e] X.env)).all (fun x => !x.1) && (backToKw cpos (keywordEach [] X.env)).all (fun x => x.1.isSome)
   && decide (([e] : List Expr).length + ([] : List Keyword).length + (if ([] : List Keyword).isEmpty then 0 else 1) < 30)) = true := by rfl)
  (hline : (apos.endLine == cpos.line) = true := by rfl) (hs : starEach [e] X.env = [(false, eval e X.env)] := by rfl) (hsw : swapsWith (.Call (.Attribute (.Name x px) "append" apos) [e] [] cpos) none pos.line X.env = pure false := by rfl) :
  SS X Y (.Expr (.Call (.Attribute (.Name x px) "append" apos) [e] [] cpos) pos) (sApp i f) :=
 PS.imp (cw0 (jV0 PySem.F.plainAttrs_list PySem.F.slot_list_append PySem.F.type_list_append ft0 hx (bo0 he cI0 hs) hbase hfew hline hs rfl) hsw) fun D σ H ⟨F, ε, fl, r, hg, k⟩ => by
  unfold sApp at hg
  split at hg
  ·rename_i ts e1
   obtain ⟨a, s1, nf, h0, hr⟩ := r.ow i _ e1
   cases q : f ε with
   | none => rw [q] at hg; cases hg
   | some t =>
    rw [q] at hg
    simp only [Option.bind_some] at hg
    split at hg
    ·rename_i hb
     cases hg
     obtain ⟨xs, ha, rs⟩ := hr.lst_
     ·refine ⟨_, s1, .inl ⟨rfl, xs, SqL.of ha⟩, F, ε, t, r, q, fun F1 v H1 m1 r1 => ⟨a, xs, v, rfl, rfl, m1.ext _ _ ha, fF0 (by rw [rs.length]; exact hb), ?_⟩⟩
      have hne : ∀ ys, H1 a ≠ some (.tup ys) := fun ys z => by rw [m1.ext _ _ ha] at z; cases z
      have kp : Keep F1 H1 F1 (upd H1 a (.lst (xs ++ [v]))) := by
       have nf1 : ¬ F1 a := fun z => (m1.new a z).elim nf fun w => by rw [ha] at w; cases w
       exact ⟨fun _ h => h, fun b u f q => by rw [an0 (fun (z : b = a) => nf1 (z ▸ f))]; exact q, fun b ys q => by rw [an0 (fun (z : b = a) => hne ys (z ▸ q))]; exact q⟩
      obtain ⟨r2, k2⟩ := (r.mono m1).write (o := .lst (xs ++ [v])) (t' := .lst (ts ++ [t])) e1 s1 hne (.lst aq0 (((rs.keep m1.keep).append (.cons r1 .nil)).keep kp))
      exact k F1 σ _ (m1.keep.trans k2) r2
    ·cases hg
  ·cases hg
def sExt (i : Nat) (f : En -> Option T) : En -> Option Fl := fun ε => match ε[i]? with
 | some (.ow (.lst ts)) => (f ε).bind fun t => match t with
  | .lst us => if ts.length + us.length <= big then some (.nx (ε.set i (.ow (.lst (ts ++ us))))) else none
  | _ => none
 | _ => none
theorem jI0 {i : Nat} {x : Str} {px apos cpos : Pos} (hx : PE X (.Name x px) (tVar i)) (he : SE X Y e f)
  (hbase : attributeBase (.Name x px) "extend" X.env (eval (.Name x px) X.env) = eval (.Name x px) X.env := by rfl)
  (hfew : ((backTo cpos (starEach [e] X.env)).all (fun x => !x.1) && (backToKw cpos (keywordEach [] X.env)).all (fun x => x.1.isSome)
   && decide (([e] : List Expr).length + ([] : List Keyword).length + (if ([] : List Keyword).isEmpty then 0 else 1) < 30)) = true := by rfl)
  (hline : (apos.endLine == cpos.line) = true := by rfl) (hs : starEach [e] X.env = [(false, eval e X.env)] := by rfl) (hsw : swapsWith (.Call (.Attribute (.Name x px) "extend" apos) [e] [] cpos) none pos.line X.env = pure false := by rfl) :
  SS X Y (.Expr (.Call (.Attribute (.Name x px) "extend" apos) [e] [] cpos) pos) (sExt i f) :=
 PS.imp (cw0 (jV0 PySem.F.plainAttrs_list PySem.F.slot_list_extend PySem.F.type_list_extend fQ0 hx (bo0 he cI0 hs) hbase hfew hline hs rfl) hsw) fun D σ H ⟨F, ε, fl, r, hg, k⟩ => by
  unfold sExt at hg
  split at hg
  ·rename_i ts e1
   obtain ⟨a, s1, nf, h0, hr⟩ := r.ow i _ e1
   cases q : f ε with
   | none => rw [q] at hg; cases hg
   | some t =>
    rw [q] at hg
    simp only [Option.bind_some] at hg
    split at hg
    ·split at hg
     ·rename_i us hb
      cases hg
      obtain ⟨xs, ha, rs⟩ := hr.lst_
      ·refine ⟨_, s1, .inl ⟨rfl, xs, SqL.of ha⟩, F, ε, _, r, q, fun F1 v H1 m1 r1 => ?_⟩
       obtain ⟨c, zs, rfl, hc, rz⟩ := (Rb.v r1).lst_
       refine ⟨a, c, xs, zs, rfl, rfl, m1.ext _ _ ha, hc, cN0 (by rw [rs.length, rz.length]; exact hb), ?_⟩
       have hne : ∀ ys, H1 a ≠ some (.tup ys) := fun ys z => by rw [m1.ext _ _ ha] at z; cases z
       have kp : Keep F1 H1 F1 (upd H1 a (.lst (xs ++ zs))) := by
        have nf1 : ¬ F1 a := fun z => (m1.new a z).elim nf fun w => by rw [ha] at w; cases w
        exact ⟨fun _ h => h, fun b u f q => by rw [an0 (fun (z : b = a) => nf1 (z ▸ f))]; exact q, fun b ys q => by rw [an0 (fun (z : b = a) => hne ys (z ▸ q))]; exact q⟩
       obtain ⟨r2, k2⟩ := (r.mono m1).write (o := .lst (xs ++ zs)) (t' := .lst (ts ++ us)) e1 s1 hne (.lst aq0 (((rs.keep m1.keep).append rz).keep kp))
       exact k F1 σ _ (m1.keep.trans k2) r2
     ·cases hg
    ·cases hg
  ·cases hg
end
end L2.BD
set_option Elab.async false
set_option linter.all false
set_option maxRecDepth 100000
set_option maxHeartbeats 4000000
namespace L2.BD
open PySem PySem.Spec PyProof.Rows
section
variable {X : Cx} {Y : Fx} {e a b : Expr} {es : List Expr} {pos p p2 : Pos} {f g : En -> Option T} {fa : En -> Option (List T)}
def φNeg : T -> Option T | .int i => some (.int (-i)) | _ => none
theorem oI0 (ha : BE X Y a f) : SE X Y (.UnaryOp .USub a pos) (e1 φNeg f) := PE.imp (pe_un ox0 ha) fun σ H Q ⟨F, ε, u, rl, hf, k⟩ => by
 unfold e1 at hf
 cases q : f ε with
 | none => rw [q] at hf; cases hf
 | some t =>
  rw [q] at hf
  refine ⟨F, ε, t, rl, q, fun F1 v H1 m1 r1 => ?_⟩
  unfold φNeg at hf
  simp only [Option.bind_some] at hf
  split at hf
  ·cases hf; exact ⟨_, r1.int_, k F1 _ H1 m1 (.int _)⟩
  ·cases hf
def mx0 (K : PySem.W.Frag) : R2 := fun x y H Q => ∃ a b xs ys, x = .ref a /\ y = .ref b /\ SqT K H a xs /\ SqT K H b ys /\ xs = [] /\ Q (.ref b) H
theorem op_catT' : OpR X (binaryOp .Add) (mx0 X.K) := by
 intro pins s σ H x y v u Q I rx ry h
 obtain ⟨a, b, xs, ys, rfl, rfl, ha, hb, hx, q⟩ := h
 cases rx
 cases ry
 obtain ⟨its, r1, p1, _⟩ := I.tuple ha
 obtain ⟨its2, r2, p2, _⟩ := I.tuple hb
 subst hx
 cases r1
 obtain ⟨⟨cls, dd, data, sl⟩, ho, hc, n, hd⟩ := id p1
 obtain ⟨⟨cls2, dd2, data2, sl2⟩, ho2, hc2, n2, hd2⟩ := id p2
 cases hc; cases hd; cases hc2; cases hd2
 exact concat_meets ⟨_, ho, rfl⟩ ⟨_, ho2, rfl⟩ noFill_tuple_add seq_tuple_add PySem.F.slot_tuple_add PySem.F.entry_tuple_add (PySem.F.args_tuple_add_2 _ _)
  (tuple_addW0 a b _ _ n n2 dd dd2 sl sl2 rfl) ⟨ho, ho2, ⟨.ref b, H, I, rfl, q⟩⟩
def cl0 : T -> T -> Option T | .tup ts, .tup us => if ts.length + us.length <= big then some (.tup (ts ++ us)) else none | _, _ => none
theorem my0 {K : PySem.W.Frag} : Op2 (fun x y H Q => mx0 K x y H Q \/ rCatT K x y H Q) cl0 := by
 intro F H x y s t u Q tk rx ry h k
 unfold cl0 at h
 split at h
 ·split at h
  ·rename_i hb
   cases h
   obtain ⟨a, xs, rfl, ha, r1⟩ := rx.tup_
   obtain ⟨b, ys, rfl, hb', r2⟩ := ry.tup_
   cases r1 with
   | nil => exact .inl ⟨a, b, _, ys, rfl, rfl, SqT.of ha, SqT.of hb', rfl, k F _ H (.refl tk) (.tup hb' r2)⟩
   | cons h1 r1 =>
    refine .inr ⟨a, b, _, ys, rfl, rfl, SqT.of ha, SqT.of hb', by simp, cN0 (by have := r1.length; have := r2.length; simp at hb ⊢; omega), fun z => ?_, fun z pp hp => ?_⟩
    ·subst z
     cases r2
     rw [List.append_nil] at k
     exact k F _ H (.refl tk) (.tup ha (.cons h1 r1))
    ·exact k F _ _ (Mono.laid tk hp) (.tup aq0 (((Rps.cons h1 r1).append r2).laid hp tk))
  ·cases h
 ·cases h
theorem ed0 (ha : BE X Y a f) (hb : BE X Y b g) : SE X Y (.BinOp a .Add b pos) (e2 cl0 f g) := ib0 (op_catT'.or iC0) my0 ha hb
def Op2F (r : R2) (φ : T -> T -> Option T) : Prop := ∀ F H x y s t u Q, Trk F H -> Rb F H x s -> Rb F H y t -> φ s t = some u -> (∀ F' a H', Mono F H F' H' -> H a = none -> ¬ F' a -> Rp1 F' H' a u -> Q (.ref a) H') -> r x y H Q
theorem oR0 {r : R2} {φ : T -> T -> Option T} (o : Op2F r φ) (σ : St) (H : Hp) (Q : VK) (h : TrF Y (e2 φ f g) σ H Q) : tOp r (TrB Y f) (TrB Y g) σ H Q := by
 obtain ⟨F, ε, u, rl, hf, k⟩ := h
 unfold e2 at hf
 cases q1 : f ε with
 | none => rw [q1] at hf; cases hf
 | some s =>
  rw [q1] at hf
  cases q2 : g ε with
  | none => simp only [Option.bind_some, q2] at hf; cases hf
  | some t =>
   simp only [Option.bind_some, q2] at hf
   refine ⟨F, ε, s, rl, q1, fun F1 x H1 m1 r1 => ⟨F1, ε, t, rl.mono m1, q2, fun F2 y H2 m2 r2 => ?_⟩⟩
   exact o F2 H2 x y s t u Q m2.trk (r1.keep m2) r2 hf fun F3 c H3 m3 n nf r3 => k F3 c H3 ((m1.trans m2).trans m3) ((m1.trans m2).free n) nf r3
def fP0 : T -> T -> Option T | .lst ts, .lst us => if ts.length + us.length <= big then some (.lst (ts ++ us)) else none | _, _ => none
theorem oU0 : Op2F rCat fP0 := by
 intro F H x y s t u Q tk rx ry h k
 unfold fP0 at h
 split at h
 ·split at h
  ·rename_i hb
   cases h
   obtain ⟨a, xs, rfl, ha, r1⟩ := rx.lst_
   obtain ⟨b, ys, rfl, hb', r2⟩ := ry.lst_
   exact ⟨a, b, xs, ys, rfl, rfl, ha, hb', cN0 (by rw [r1.length, r2.length]; exact hb), fun pp hp => k F _ _ (Mono.laid tk hp) hp (Trk.new tk hp) (.lst aq0 ((r1.append r2).laid hp tk))⟩
  ·cases h
 ·cases h
theorem iz0 (ha : BE X Y a f) (hb : BE X Y b g) : FE X Y (.BinOp a .Add b pos) (e2 fP0 f g) := PE.imp (nX0 pd0 ha hb) (oR0 oU0)
theorem sl_tupW : SlR X (fun x lo hi H Q => ∃ a xs, x = .ref a /\ SqT X.K H a xs /\ HT.sIx xs.length 0 lo = 0 /\ HT.sIx xs.length xs.length hi = xs.length /\ Q (.ref a) H) := by
 intro pins s σ H x v vl vu lo hi sl Q I rx hs pl pu h
 obtain ⟨a, xs, rfl, hx, w1, w2, q⟩ := h
 cases rx
 obtain ⟨its, r, ht, hz⟩ := I.tuple hx
 have hlen : its.toArray.size = xs.length := by rw [List.size_toArray]; exact r.length.symm
 refine ⟨"tuple", _, PyProof.Rows.slot_tuple_getitem.lookup, ht.typeIs, ?_⟩
 obtain ⟨os, hos, hcs, hds⟩ := id hs
 have hTs : s.TypeIs (.ref sl) "slice" := ⟨os, hos, hcs⟩
 unfold getItem
 try with_reducible refine wpAny_holding ?_
 first | refine wpAny_bind (wpAny_pure ?_) | skip
 refine wpAny_bind (wpAny_sequenceKey ht.typeIs (by decide) ?_)
 refine wpAny_bind (wpAny_callSpecial?_slot (name := Str.ofString "__getitem__") ht.typeIs PyProof.Rows.slot_tuple_getitem (wpAny_call_entry PyProof.Rows.slot_tuple_getitem ht.typeIs entry_tuple_getitem ?_ (args_tuple_getitem _ _)))
 show wpAny _ _ (Builtin.Tuple.tupleItemsOf (.ref a) >>= _) _ _ s
 refine wpAny_bind (tupleItemsOf_ ht (wpAny_bind (wpAny_typeOf hTs ?_)))
 rw [if_pos (by decide)]
 refine wpAny_bind (HT.sliceApplied_gen hs pl pu ?_)
 show wpAny _ _ (if (((HT.sIx its.toArray.size 0 lo : Nat) : Int) == 0 && (1 : Int) == 1 && (HT.sIx its.toArray.size its.toArray.size hi - HT.sIx its.toArray.size 0 lo) == its.toArray.size) = true then _ else _) _ _ s
 rw [hlen, w1, w2, if_pos (by simp)]
 have fin : EP X pins σ Q (.ref a) s := ⟨.ref a, H, I, rfl, q⟩
 unfold Builtin.Tuple.tupleIsExact
 first
  | exact wpAny_bind (wpAny_bind (wpAny_typeOf ht.typeIs (wpAny_pure (by rw [if_pos (by decide)]; exact wpAny_bind (wpAny_rule (wpAny_bind (wpAny_pure (wpAny_pure ⟨_, rfl, wpAny_pure fin⟩))))))))
  | exact wpAny_bind (wpAny_bind (wpAny_typeOf ht.typeIs (wpAny_pure (by rw [if_pos (by decide)]; exact wpAny_bind (wpAny_rule (wpAny_pure ⟨_, rfl, wpAny_pure fin⟩))))))
  | exact wpAny_bind (wpAny_bind (wpAny_typeOf ht.typeIs (wpAny_pure (by rw [if_pos (by decide)]; exact wpAny_bind (wpAny_rule (wpAny_bind (wpAny_pure ⟨_, rfl, wpAny_pure fin⟩)))))))
def bd0 (f : Option (En -> Option T)) : En -> Option (Option Int) := fun ε => match f with
 | none => some none
 | some f => match f ε with | some (.int i) => some (some i) | _ => none
def TrO (Y : Fx) (f : En -> Option (Option Int)) : TO := fun σ H Q => ∃ F ε o, Rel Y F ε σ H /\ f ε = some o /\ ∀ F' H', Mono F H F' H' -> Q o H'
theorem cB0 : PO X none (TrO Y (bd0 none)) := fun pins s σ H Q I ⟨F, ε, o, r, hf, k⟩ => by
 cases hf
 exact nC0 pins s σ H Q I (k F H r.refl)
theorem cC0 (h : BE X Y e f) : PO X (some e) (TrO Y (bd0 (some f))) := fun pins s σ H Q I ⟨F, ε, o, r, hf, k⟩ => by
 refine ny0 h pins s σ H Q I ?_
 have hf : (match f ε with | some (.int i) => some (some i) | _ => none) = some o := hf
 split at hf
 ·cases hf
  exact ⟨F, ε, _, r, by assumption, fun F1 v H1 m1 r1 => ⟨_, r1.int_, k F1 H1 m1⟩⟩
 ·cases hf
def cutT (ts : List T) (lo hi : Option Int) : List T := (ts.drop (HT.sIx ts.length 0 lo)).take (HT.sIx ts.length ts.length hi - HT.sIx ts.length 0 lo)
def eSlT (f : En -> Option T) (lo hi : En -> Option (Option Int)) : En -> Option T := fun ε => match f ε with
 | some (.tup ts) => (lo ε).bind fun l => (hi ε).bind fun h => some (.tup (cutT ts l h))
 | _ => none
def eSlL (f : En -> Option T) (lo hi : En -> Option (Option Int)) : En -> Option T := fun ε => match f ε with
 | some (.lst ts) => (lo ε).bind fun l => (hi ε).bind fun h => some (.lst (cutT ts l h))
 | _ => none
theorem Rps.cut {F : Addr -> Prop} {H : Hp} {xs : List V} {ts : List T} (r : Rps F H xs ts) (lo hi : Option Int) : Rps F H (cutV xs lo hi) (cutT ts lo hi) := by
 unfold cutV cutT
 rw [r.length]
 exact (r.drop _).take _
variable {lo hi : Option Expr} {fl fh : En -> Option (Option Int)}
theorem fJ0 (ha : BE X Y a f) (hl : PO X lo (TrO Y fl)) (hh : PO X hi (TrO Y fh)) : SE X Y (.Subscript a (.Slice lo hi none p2) pos) (eSlT f fl fh) := PE.imp (gL0 (sl_tupW.or oE0) ha hl hh) fun σ H Q ⟨F, ε, u, rl, hf, k⟩ => by
 unfold eSlT at hf
 split at hf
 ·rename_i ts qf
  cases q1 : fl ε with
  | none => rw [q1] at hf; cases hf
  | some l =>
   cases q2 : fh ε with
   | none => rw [q1] at hf; simp only [Option.bind_some, q2] at hf; cases hf
   | some h =>
    rw [q1] at hf
    simp only [Option.bind_some, q2] at hf
    cases hf
    refine ⟨F, ε, _, rl, qf, fun F1 v H1 m1 r1 => ⟨F1, ε, l, rl.mono m1, q1, fun F2 H2 m2 => ⟨F2, ε, h, rl.mono (m1.trans m2), q2, fun F3 H3 m3 => ?_⟩⟩⟩
    obtain ⟨c, xs, rfl, hc, rs⟩ := (r1.keep (m2.trans m3)).tup_
    have m13 : Mono F H F3 H3 := (m1.trans m2).trans m3
    by_cases hw : HT.sIx xs.length 0 l = 0 /\ HT.sIx xs.length xs.length h = xs.length
    ·refine .inl ⟨c, xs, rfl, SqT.of hc, hw.1, hw.2, k F3 _ H3 m13 ?_⟩
     have e : cutT ts l h = ts := by
      unfold cutT
      rw [<- rs.length, hw.1, hw.2, List.drop_zero, Nat.sub_zero, rs.length, List.take_length]
     rw [e]
     exact .tup hc rs
    ·exact .inr ⟨c, xs, rfl, SqT.of hc, hw, fun pp hp => k F3 _ _ (m13.trans (Mono.laid m3.trk hp)) (.tup aq0 ((rs.cut l h).laid hp m3.trk))⟩
 ·cases hf
theorem jX0 (ha : BE X Y a f) (hl : PO X lo (TrO Y fl)) (hh : PO X hi (TrO Y fh)) : FE X Y (.Subscript a (.Slice lo hi none p2) pos) (eSlL f fl fh) := PE.imp (gL0 nH0 ha hl hh) fun σ H Q ⟨F, ε, u, rl, hf, k⟩ => by
 unfold eSlL at hf
 split at hf
 ·rename_i ts qf
  cases q1 : fl ε with
  | none => rw [q1] at hf; cases hf
  | some l =>
   cases q2 : fh ε with
   | none => rw [q1] at hf; simp only [Option.bind_some, q2] at hf; cases hf
   | some h =>
    rw [q1] at hf
    simp only [Option.bind_some, q2] at hf
    cases hf
    refine ⟨F, ε, _, rl, qf, fun F1 v H1 m1 r1 => ⟨F1, ε, l, rl.mono m1, q1, fun F2 H2 m2 => ⟨F2, ε, h, rl.mono (m1.trans m2), q2, fun F3 H3 m3 => ?_⟩⟩⟩
    obtain ⟨c, xs, rfl, hc, rs⟩ := (r1.keep (m2.trans m3)).lst_
    have m13 : Mono F H F3 H3 := (m1.trans m2).trans m3
    exact ⟨c, xs, rfl, SqL.of hc, fun pp hp => k F3 _ _ (m13.trans (Mono.laid m3.trk hp)) (m13.free hp) (Trk.new m3.trk hp) (.lst aq0 ((rs.cut l h).laid hp m3.trk))⟩
 ·cases hf
def idxT (ts : List T) (s : T) : Option Nat := ts.findIdx? fun y => eqV (toV y) (toV s)
def cG0 (o : T) (xs : List T) : Option T := match o, xs with
 | .lst ts, [s] => if aQ0 s && ts.all aQ0 && decide (ts.length <= big) then (idxT ts s).map fun (j : Nat) => .int (j : Int) else none
 | _, _ => none
def cX0 (o : T) (xs : List T) : Option T := match o, xs with
 | .lst ts, [s] => if aQ0 s && ts.all aQ0 then some (.int ((ts.countP fun y => eqV (toV y) (toV s) : Nat) : Int)) else none
 | _, _ => none
def cT0 (o : T) (xs : List T) : Option T := match o, xs with
 | .tup ts, [s] => if aQ0 s && ts.all aQ0 then some (.int ((ts.countP fun y => eqV (toV y) (toV s) : Nat) : Int)) else none
 | _, _ => none
theorem dS0 {x : V} : ∀ {xs : List V} {us : List Value}, Vals xs us -> xs.all bR0 = true -> us.countP (eqU x) = xs.countP fun y => eqV y x
 | _, _, .nil, _ => rfl
 | y :: xs, u :: us, .cons r t, f => by
  rw [List.all_cons, Bool.and_eq_true] at f
  rw [List.countP_cons, List.countP_cons, hy0 r f.1, dS0 t f.2]
theorem dL0 {x : V} : ∀ {xs : List V} {us : List Value}, Vals xs us -> xs.all bR0 = true -> us.findIdx? (eqU x) = xs.findIdx? fun y => eqV y x
 | _, _, .nil, _ => rfl
 | y :: xs, u :: us, .cons r t, f => by
  rw [List.all_cons, Bool.and_eq_true] at f
  rw [List.findIdx?_cons, List.findIdx?_cons, hy0 r f.1, dL0 t f.2]
theorem lD0 : MtR X "list.index" (fun x vs H Q => ∃ (l : Addr) (xs : List V) (y : V) (j : Nat), x = .ref l /\ vs = [y] /\ SqL X.K H l xs /\ bR0 y = true /\ xs.all bR0 = true /\ xs.length <= big /\ (xs.findIdx? fun z => eqV z y) = some j /\ Q (.int (j : Int)) H) := by
 intro pins s σ H x vs v us Q I rx rv h
 obtain ⟨l, xs, y, j, rfl, rfl, hl, fy, fs, hz, hj, q⟩ := h
 cases rx
 obtain ⟨u, rfl, ru⟩ := rv.one
 obtain ⟨its, r, pl, _⟩ := I.list hl
 rw [<- dL0 r fs] at hj
 obtain ⟨hlt, hit, hno⟩ := List.findIdx?_eq_some_iff_getElem.mp hj
 obtain ⟨⟨cls, dd, data, sl⟩, n, ho, hc, hdd, hd⟩ := pl
 cases hc; cases hd; cases hdd
 have hlen := r.length
 refine call_meets PySem.F.slot_list_index ⟨_, ho, rfl⟩ PySem.F.entry_list_index (PySem.F.args_list_index_2 _ _) (SeqAt.list_indexAt l its.toArray n none sl u (eqU y) j (by simpa using hlt) ?_ (by simpa using hit) fun m hm hmj => ?_) ⟨ho, fun z hz => cd0 ru fy r fs z (by simpa using hz), ?_⟩
 ·have : j < 1000000 := Nat.lt_of_lt_of_le hlt (by rw [<- hlen]; exact hz)
  omega
 ·simpa using hno m hmj
 ·exact ⟨.int j, H, I.tok _, ⟨_, rfl⟩, q⟩
theorem mb0 : MtR X "list.count" (fun x vs H Q => ∃ (l : Addr) (xs : List V) (y : V), x = .ref l /\ vs = [y] /\ SqL X.K H l xs /\ bR0 y = true /\ xs.all bR0 = true /\ Q (.int ((xs.countP fun z => eqV z y : Nat) : Int)) H) := by
 intro pins s σ H x vs v us Q I rx rv h
 obtain ⟨l, xs, y, rfl, rfl, hl, fy, fs, q⟩ := h
 cases rx
 obtain ⟨u, rfl, ru⟩ := rv.one
 obtain ⟨its, r, pl, _⟩ := I.list hl
 obtain ⟨⟨cls, dd, data, sl⟩, n, ho, hc, hdd, hd⟩ := pl
 cases hc; cases hd; cases hdd
 refine call_meets PySem.F.slot_list_count ⟨_, ho, rfl⟩ PySem.F.entry_list_count (PySem.F.args_list_count_2 _ _) (SeqAt.list_countAt l its.toArray n none sl u (eqU y)) ⟨ho, fun z hz => cd0 ru fy r fs z (by simpa using hz), ?_⟩
 refine ⟨.int _, H, I.tok _, ⟨_, rfl⟩, ?_⟩
 rw [show its.toArray.toList = its by simp, dS0 r fs]
 exact q
theorem iI0 : MtR X "tuple.count" (fun x vs H Q => ∃ (l : Addr) (xs : List V) (y : V), x = .ref l /\ vs = [y] /\ SqT X.K H l xs /\ bR0 y = true /\ xs.all bR0 = true /\ Q (.int ((xs.countP fun z => eqV z y : Nat) : Int)) H) := by
 intro pins s σ H x vs v us Q I rx rv h
 obtain ⟨l, xs, y, rfl, rfl, hl, fy, fs, q⟩ := h
 cases rx
 obtain ⟨u, rfl, ru⟩ := rv.one
 obtain ⟨its, r, pl, _⟩ := I.tuple hl
 obtain ⟨⟨cls, dd, data, sl⟩, ho, hc, n, hd⟩ := pl
 cases hc; cases hd
 refine call_meets PySem.F.slot_tuple_count ⟨_, ho, rfl⟩ PySem.F.entry_tuple_count (PySem.F.args_tuple_count_2 _ _) (SeqAt.tuple_countAt l its.toArray n dd sl u (eqU y)) ⟨ho, fun z hz => cd0 ru fy r fs z (by simpa using hz), ?_⟩
 refine ⟨.int _, H, I.tok _, ⟨_, rfl⟩, ?_⟩
 rw [show its.toArray.toList = its by simp, dS0 r fs]
 exact q
end
end L2.BD
set_option Elab.async false
set_option linter.all false
set_option maxRecDepth 100000
set_option maxHeartbeats 4000000
namespace L2
open PySem PySem.Spec PyProof.Rows
theorem kV_of {P : Program} {w : World} {k : Key} {u : Value} (h : (aH0 P w).is k u = true) : RelV (kV k) u := by
 rcases aU0 (k := k) (v := u) h with ⟨i, t, rfl, rfl⟩ | ⟨x, t, rfl, rfl⟩
 ·exact ⟨t, rfl⟩
 ·exact ⟨t, rfl⟩
theorem bS0 {X : Cx} {pins : List (Addr × Obj)} {σ : St} {H : Hp} {s : Shared} {a : Addr} {ob : Obj} {kvs : List (Key × V)} {es : Array DictEntry} {ep : Nat} (I : Inv X pins σ H s) (h : H a = some (.frz ob (.dK kvs))) (hd : ob.data = .dict es ep) :
  s.heap.get? a = some ob /\ (a == sysModules) = false /\ ob.dict = none /\ ∃ vs, KV kvs vs /\ s.heap.DictAt (aH0 X.prog X.w) a vs ep := by
 obtain ⟨h1, _, h2, vs, r, o, es', ep', h3, h4, h5, h6⟩ := (show ObjOk X.prog X.w H s.heap a (.frz ob (.dK kvs)) from I.hok a _ h)
 rw [h1] at h3
 cases h3
 rw [hd] at h5
 cases h5
 exact ⟨h1, h2, h4.2.1, vs, r, ob, es, h1, h4, hd, h6⟩
def Itk (a : Addr) (ob : Obj) (kvs : List (Key × V)) : It :=
 ⟨fun i H => H a = some (.frz ob (.dK kvs)) /\ i < kvs.length, fun i H x H' => H' = H /\ ∃ k v, kvs[i]? = some (k, v) /\ x = kV k, fun i H => H a = some (.frz ob (.dK kvs)) /\ kvs.length <= i⟩
def Itp (a : Addr) (ob : Obj) (kvs : List (Key × V)) : It :=
 ⟨fun i H => H a = some (.frz ob (.dK kvs)) /\ i < kvs.length, fun i H x H' => ∃ p k v, H p = none /\ kvs[i]? = some (k, v) /\ x = .ref p /\ H' = upd H p (.tup [kV k, v]), fun i H => H a = some (.frz ob (.dK kvs)) /\ kvs.length <= i⟩
theorem KV.at {κ : Type} : ∀ {kvs : List (κ × V)} {vs : List (κ × Value)} {i : Nat} {k : κ} {v : V}, KV kvs vs -> kvs[i]? = some (k, v) -> ∃ u, vs[i]? = some (k, u) /\ RelV v u
 | _, _, _, _, _, .nil, e => by simp at e
 | _, _, 0, k, v, .cons (b := b) h _, e => by
  simp at e
  subst e
  obtain ⟨b1, b2⟩ := b
  obtain ⟨rfl, h2⟩ := h
  exact ⟨b2, rfl, h2⟩
 | _, _, i + 1, k, v, .cons _ t, e => by
  obtain ⟨u, h1, h2⟩ := KV.at (i := i) (k := k) (v := v) t (by simpa using e)
  exact ⟨u, by simpa using h1, h2⟩
theorem is0 {P : Program} {w : World} {K : PySem.W.Frag} {tg : Expr} (a it : Addr) {ob : Obj} {kvs : List (Key × V)} {es : Array DictEntry} {ep : Nat} (hd : ob.data = .dict es ep) :
  Turn P w K tg (Itk a ob kvs) [it] it (fun i h => h.IsKeyIter it a i kvs.length ep) where
 mem := by simp
 obj := fun i h st b hb => by
  have e : b = it := by simpa using hb
  subst e
  obtain ⟨o, e, c, d⟩ := st
  exact ⟨o, e, fun v z => by rw [d] at z; cases z⟩
 keep := fun i h h' st k => by
  obtain ⟨o, e, c⟩ := st
  exact ⟨o, k it (by simp) o e, c⟩
 item := by
  intro X hP hw hK hc i pins s σ H E I hf st hg
  subst hP hw hK
  obtain ⟨hH, hi⟩ := hg
  obtain ⟨_, _, _, vs, rv, da⟩ := bS0 I hH hd
  obtain ⟨k, v, hkv⟩ : ∃ k v, kvs[i]? = some (k, v) := ⟨_, _, by rw [List.getElem?_eq_getElem hi]⟩
  obtain ⟨u, hu, _⟩ := rv.at hkv
  have hlen : kvs.length = vs.length := rv.length
  rw [hlen] at st
  obtain ⟨f0, f1, f2, f3, f4, f5⟩ := hf it (by simp)
  refine wpAny_pyNext_dict_item st da hu fun key h' hk st' sb => ?_
  have I1 : Inv X pins σ H { s with heap := h' } := I.turned (t' := s.toks) (fun b o hb e => (sb.2 b hb).trans e) f0 f1 f3 f4 f5
  obtain ⟨o, e, c, d⟩ := id st'
  exact ⟨key, rfl, mc0 (s := { s with heap := h' }) e c d (by decide) ⟨kV k, H, I1, kV_of hk, ⟨rfl, k, v, hkv, rfl⟩, by rw [hlen]; exact st', fun b hb => (hf b hb).1⟩⟩
 done := by
  intro X hP hw hK hc i pins s σ H E I hf st hg
  subst hP hw hK
  obtain ⟨hH, hi⟩ := hg
  obtain ⟨_, _, _, vs, rv, da⟩ := bS0 I hH hd
  have hlen : kvs.length = vs.length := rv.length
  rw [hlen] at st
  obtain ⟨f0, f1, f2, f3, f4, f5⟩ := hf it (by simp)
  exact wpAny_pyNext_dict_end (I.ok.hd hc) st da (List.getElem?_eq_none (by rw [<- hlen]; exact hi)) fun h' eb => ⟨rfl, I.turned (t' := s.toks) (fun b o hb e => eb b o hb e) f0 f1 f3 f4 f5⟩
 self := fun A i s Q E st h => by
  obtain ⟨o, ho, hc, hd⟩ := id st
  exact wpAny_pyIter_keyiter st h
theorem Inv.turnedLaid {X : Cx} {pins : List (Addr × Obj)} {σ : St} {H : Hp} {s : Shared} {h' : Heap} {t' : Nat} {it : List Addr} {a : Addr} {o : HO} (I : Inv X pins σ H s) (k : ∀ b o, b ∉ it -> s.heap.get? b = some o -> h'.get? b = some o)
  (hi : ∀ b ∈ it, H b = none /\ b ≠ X.env.locals /\ (b ∈ X.ex \/ X.s₀.heap.objs.size <= b) /\ (∀ x c, X.env.cells.lookup x = some c -> c ≠ b) /\ ∀ p ∈ X.pn ++ pins, p.1 ≠ b)
  (hp : s.heap.objs.size <= a) (new : ObjOk X.prog X.w (upd H a o) h' a o) : Inv X pins σ (upd H a o) { s with heap := h', toks := t' } := by
 have hn : H a = none := I.hok.fresh hp
 have nit : ∀ b u, H b = some u -> b ∉ it := fun b u e z => by rw [(hi b z).1] at e; cases e
 refine I.step (g' := s.gens) (d' := s.drawn) (ch := it) (fun b hb => (hi b hb).2.elim fun q1 q => ⟨q.1, q1, q.2.1, q.2.2⟩) (fun b o _ _ hc e _ => k b o hc e) (fun b o _ _ hc e _ => ⟨o.slots, k b o hc e⟩) (fun b o hc e n => ?_)
  (fun b o hc e => ⟨o, k b o hc e⟩) (fun b xs e => by rw [an0 (au0 e hn)]; exact e) (fun b o u e => by rw [an0 (au0 e hn)]; exact e) (fun b ps e => ⟨#[], by rw [an0 (au0 e hn), e]; simp⟩) (fun m hm => ?_) (fun b u e => ?_) I.bare
 ·rw [an0 (Nat.ne_of_lt (Nat.lt_of_lt_of_le (Heap.lt_size e) hp))]; exact n
 ·obtain ⟨o, es, ep, ho, r⟩ := hm
  exact ⟨o, es, ep, k _ o (fun z => (hi _ z).2.1 rfl) ho, r⟩
 ·by_cases hb : b = a
  ·subst hb; rw [aq0] at e; cases e; exact new
  ·rw [an0 hb] at e
   refine (I.hok b u e).stay (fun c v hc q => k c v ?_ q) (fun c q => by rw [an0 (au0 q hn)]; exact q) fun c xs q => by rw [an0 (au0 q hn)]; exact q
   rcases hc with z | z
   ·rw [z]; exact nit b u e
   ·exact nit c _ z
theorem cQ0 : entryFor table "dict_itemiterator.__iter__" = some Builtin.«dict_keyiterator.__iter__» :=
 entryFor_alias (id' := "dict_keyiterator.__iter__") (by kernel_rfl) (by first | rfl | decide +kernel) (by decide +kernel) (by kernel_rfl)
theorem ip0 {P : Program} {w : World} {K : PySem.W.Frag} {elts : List Expr} {x1 : Nat} {tp : Pos} (a it : Addr) {ob : Obj} {kvs : List (Key × V)} {es : Array DictEntry} {ep : Nat} (hd : ob.data = .dict es ep) :
  Turn P w K (.Tuple elts x1 tp) (Itp a ob kvs) [it] it (fun i h => ∃ ok ov, IsItemIter h it a i kvs.length ep ok ov) where
 mem := by simp
 obj := fun i h st b hb => by
  have e : b = it := by simpa using hb
  subst e
  obtain ⟨ok, ov, st⟩ := st
  exact ⟨_, st, fun v z => by
   have z' : Data.fields _ = Data.cell v := z
   cases z'⟩
 keep := fun i h h' ⟨ok, ov, st⟩ k => ⟨ok, ov, k it (by simp) _ st⟩
 item := by
  intro X hP hw hK hc i pins s σ H E I hf st hg
  subst hP hw hK
  obtain ⟨hH, hi⟩ := hg
  obtain ⟨ok, ov, st⟩ := st
  obtain ⟨_, _, _, vs, rv, da⟩ := bS0 I hH hd
  obtain ⟨k, v, hkv⟩ : ∃ k v, kvs[i]? = some (k, v) := ⟨_, _, by rw [List.getElem?_eq_getElem hi]⟩
  obtain ⟨u, hu, ru⟩ := rv.at hkv
  have hlen : kvs.length = vs.length := rv.length
  rw [hlen] at st
  obtain ⟨f0, f1, f2, f3, f4, f5⟩ := hf it (by simp)
  refine wpAny_pyNext_items_item st da hu fun key h' hk st' ht hsz kk => ⟨_, rfl, ?_⟩
  refine wpAny_letOwnedTupleGo_items st' fun h'' st'' sb => ?_
  have hit : it < s.heap.objs.size := Heap.lt_size st
  have hn : H s.heap.objs.size = none := I.hok.fresh (Nat.le_refl _)
  have ht2 : h''.get? s.heap.objs.size = some { cls := .type "tuple", data := .seq #[key, u] } := (sb.2 _ (Nat.ne_of_gt hit)).trans ht
  have I2 : Inv X pins σ (upd H s.heap.objs.size (.tup [kV k, v])) { s with heap := h'' } := by
   refine I.turnedLaid (t' := s.toks) (it := [it]) (fun b o hb e => (sb.2 b (by simpa using hb)).trans (kk b o (by simpa using hb) e)) (fun b hb => ?_) (Nat.le_refl _) ?_
   ·have e : b = it := by simpa using hb
    rw [e]
    exact ⟨f0, f1, f3, f4, f5⟩
   ·exact ⟨by simp only [List.length_cons, List.length_nil]; rw [sizeLine_eq]; decide, [key, u], .cons (kV_of hk) (.cons ru .nil), ⟨_, ht2, rfl, 0, rfl⟩, _, ht2, rfl⟩
  exact ⟨.ref s.heap.objs.size, _, I2, rfl, ⟨_, k, v, hn, hkv, rfl, rfl⟩, ⟨_, _, by rw [hlen]; exact st''⟩, fun b hb => by
   have e : b = it := by simpa using hb
   rw [e, an0 (Nat.ne_of_lt hit)]
   exact f0⟩
 done := by
  intro X hP hw hK hc i pins s σ H E I hf st hg
  subst hP hw hK
  obtain ⟨hH, hi⟩ := hg
  obtain ⟨ok, ov, st⟩ := st
  obtain ⟨_, _, _, vs, rv, da⟩ := bS0 I hH hd
  have hlen : kvs.length = vs.length := rv.length
  rw [hlen] at st
  obtain ⟨f0, f1, f2, f3, f4, f5⟩ := hf it (by simp)
  exact wpAny_pyNext_items_end (I.ok.hd hc) st da (List.getElem?_eq_none (by rw [<- hlen]; exact hi)) fun h' eb => ⟨rfl, I.turned (t' := s.toks) (fun b o hb e => eb b o hb e) f0 f1 f3 f4 f5⟩
 self := fun A i s Q E ⟨ok, ov, st⟩ h => by
  have hT : s.TypeIs (.ref it) "dict_itemiterator" := ⟨_, st, rfl⟩
  refine wpAny_pyIter_slot hT F.slot_dict_itemiterator_iter (wpAny_call_entry F.slot_dict_itemiterator_iter hT cQ0 ?_ (F.args_dict_itemiterator_iter_1 _))
  show wpAny _ _ (ret (.ref it)) _ _ s
  exact wpAny_pure ⟨_, rfl, _, _, hT, F.slot_dict_itemiterator_next.lookup, h⟩
section
variable {X : Cx} {tg : Expr}
def iKeys (tl : TE) : TI := fun σ H R => tl σ H fun x H1 => ∃ a ob kvs, x = .ref a /\ H1 a = some (.frz ob (.dK kvs)) /\ R (Itk a ob kvs) H1
theorem nT0 {l : Expr} {tl : TE} (hl : PE X l tl) : PI X tg l (iKeys tl) := by
 intro pins s σ H R I h
 refine thn (hl pins s σ H _ I h) fun v s1 ⟨x, H1, I1, r1, a, ob, kvs, e, ha, q⟩ => ?_
 subst e
 cases r1
 have ok : ObjOk X.prog X.w H1 s1.heap a (.frz ob (.dK kvs)) := I1.hok a _ ha
 obtain ⟨h1, _, h2, vs, rv, o, es, ep, h3, h4, h5, _⟩ := ok
 rw [h1] at h3
 cases h3
 obtain ⟨_, _, _, vs, rv, da⟩ := bS0 I1 ha h5
 refine wpAny_pyIter_dict h2 da ?_
 refine ⟨s1.heap.objs.size, [s1.heap.objs.size], _, _, H1, rfl, I1.kept (t' := s1.toks) fun b o e => Heap.get?_push_of_some _ e, is0 a _ h5, ⟨_, Heap.get?_push_size _ rfl, rfl, by rw [rv.length]; rfl⟩, fun b hb => ?_, q⟩
 have e : b = s1.heap.objs.size := by simpa using hb
 subst e
 exact I1.fpOk (Nat.le_refl _) (I1.hok.fresh (Nat.le_refl _))
def os0 (tl : TE) : TI := fun σ H R => tl σ H fun x H1 => ∃ a ob kvs, x = .ref a /\ H1 a = some (.frz ob (.dK kvs)) /\ R (Itp a ob kvs) H1
theorem lB0 {l : Expr} {tl : TE} {elts : List Expr} {x1 : Nat} {tp apos pos : Pos} (hl : PE X l tl) (hbase : attributeBase l "items" X.env (eval l X.env) = eval l X.env := by rfl) (hline : (apos.endLine == pos.line) = true := by rfl) :
  PI X (.Tuple elts x1 tp) (.Call (.Attribute l "items" apos) [] [] pos) (os0 tl) := by
 intro pins s σ H R I h
 refine wpAny_Call_method0_late hbase hline (thn (hl pins s σ H _ I h) fun v s1 ⟨x, H1, I1, r1, a, ob, kvs, e, ha, q⟩ => ?_)
 subst e
 cases r1
 have ok : ObjOk X.prog X.w H1 s1.heap a (.frz ob (.dK kvs)) := I1.hok a _ ha
 obtain ⟨h1, _, h2, vs, rv, o, es, ep, h3, h4, h5, _⟩ := ok
 rw [h1] at h3
 cases h3
 obtain ⟨_, _, hdn, vs, rv, da⟩ := bS0 I1 ha h5
 refine ⟨"dict", "dict.items", F.plainAttrs_dict, F.slot_dict_items, F.type_dict_items, da.dictOf.typeIs, fun b e => ?_, Calls.callWith_builtin rfl (PySem.evalArgs_none ?_)⟩
 ·cases e
  exact ⟨ob, h1, hdn⟩
 refine call_meetsIn F.slot_dict_items da.dictOf.typeIs F.entry_dict_items (F.args_dict_items_1 _) (meets_dict_items (aH0 X.prog X.w) a h2) ⟨⟨vs, da.dictOf⟩, ?_⟩
 have I2 : Inv X pins σ H1 { s1 with heap := s1.heap.push { cls := .type "dict_items", data := .fields #[.ref a] } } := I1.kept (t' := s1.toks) fun b o e => Heap.get?_push_of_some _ e
 refine wpAny_pyIter_items (v := s1.heap.objs.size) (d := a) ⟨_, Heap.get?_push_size _ rfl, rfl, rfl⟩ (da.push _) ?_
 refine ⟨_, [_], _, _, H1, rfl, I2.kept (t' := s1.toks) fun b o e => Heap.get?_push_of_some _ e, ip0 a _ h5, ⟨.none, .none, by rw [rv.length]; exact Heap.get?_push_size _ rfl⟩, fun b hb => ?_, q⟩
 have e : b = (s1.heap.push { cls := .type "dict_items", data := .fields #[.ref a] }).objs.size := by simpa using hb
 subst e
 exact I2.fpOk (Nat.le_refl _) (I2.hok.fresh (Nat.le_refl _))
end
end L2
namespace L2.BD
open PySem PySem.Spec PyProof.Rows
theorem Rpk.at {F : Addr -> Prop} {H : Hp} : ∀ {kvs : List (Key × V)} {kts : List (Str × T)} {i : Nat} {k : Str} {t : T}, Rpk F H kvs kts -> kts[i]? = some (k, t) -> ∃ v, kvs[i]? = some (Sum.inr k, v) /\ Rp F H v t
 | _, _, _, _, _, .nil, e => by simp at e
 | _, _, 0, k, t, .cons h _, e => by simp at e; obtain ⟨rfl, rfl⟩ := e; exact ⟨_, rfl, h⟩
 | _, _, i + 1, k, t, .cons _ r, e => by
  obtain ⟨v, h1, h2⟩ := Rpk.at (i := i) (k := k) (t := t) r (by simpa using e)
  exact ⟨v, by simpa using h1, h2⟩
section
variable {X : Cx} {Y : Fx} {tg e a b o : Expr} {es : List Expr} {pos p apos cpos : Pos} {f g h : En -> Option T} {fa : En -> Option (List T)}
def iKey (f : En -> Option T) : En -> Option (List T) := fun ε => match f ε with | some (.dct kts) => some (kts.map fun kt => T.str kt.1) | _ => none
theorem nR0 (hl : SE X Y e f) : SI X Y tg e (iKey f) := PI.imp (nT0 hl) fun σ H R ⟨F, ε, ts, r, hf, k⟩ => by
 unfold iKey at hf
 split at hf
 ·rename_i kts qf
  cases hf
  refine ⟨F, ε, _, r, qf, fun F1 v H1 m1 r1 => ?_⟩
  cases r1 with
  | @dct a ob kvs _ fa' ha rs =>
   refine ⟨a, ob, kvs, rfl, ha, k F1 H1 _ m1 fun i F2 H2 kp tk => ⟨fun t e => ?_, fun e => ⟨kp.frz a _ fa' ha, by rw [rs.length, e, List.length_map]; exact Nat.le_refl _⟩⟩⟩
   rw [List.getElem?_map] at e
   cases q : kts[i]? with
   | none => rw [q] at e; cases e
   | some kt =>
    rw [q] at e
    cases e
    obtain ⟨k0, t0⟩ := kt
    obtain ⟨v, hv, _⟩ := rs.at q
    exact ⟨⟨kp.frz a _ fa' ha, (List.getElem?_eq_some_iff.mp hv).1⟩, fun x H' ⟨e1, k1, v1, e2, e3⟩ => by
     subst e1 e3
     rw [hv] at e2
     cases e2
     exact ⟨F2, .refl tk, .str _⟩⟩
 ·cases hf
def fK0 (f : En -> Option T) : En -> Option (List T) := fun ε => match f ε with | some (.dct kts) => some (kts.map fun kt => T.tup [.str kt.1, kt.2]) | _ => none
theorem gU0 {elts : List Expr} {x1 : Nat} {tp : Pos} (hl : SE X Y e f) (hbase : attributeBase e "items" X.env (eval e X.env) = eval e X.env := by rfl) (hline : (apos.endLine == pos.line) = true := by rfl) :
  SI X Y (.Tuple elts x1 tp) (.Call (.Attribute e "items" apos) [] [] pos) (fK0 f) := PI.imp (lB0 hl hbase hline) fun σ H R ⟨F, ε, ts, r, hf, k⟩ => by
 unfold fK0 at hf
 split at hf
 ·rename_i kts qf
  cases hf
  refine ⟨F, ε, _, r, qf, fun F1 v H1 m1 r1 => ?_⟩
  cases r1 with
  | @dct a ob kvs _ fa' ha rs =>
   refine ⟨a, ob, kvs, rfl, ha, k F1 H1 _ m1 fun i F2 H2 kp tk => ⟨fun t e => ?_, fun e => ⟨kp.frz a _ fa' ha, by rw [rs.length, e, List.length_map]; exact Nat.le_refl _⟩⟩⟩
   rw [List.getElem?_map] at e
   cases q : kts[i]? with
   | none => rw [q] at e; cases e
   | some kt =>
    rw [q] at e
    cases e
    obtain ⟨k0, t0⟩ := kt
    obtain ⟨v, hv, rv⟩ := rs.at q
    exact ⟨⟨kp.frz a _ fa' ha, (List.getElem?_eq_some_iff.mp hv).1⟩, fun x H' ⟨pp, k1, v1, hp, e2, e3, e4⟩ => by
     subst e3 e4
     rw [hv] at e2
     cases e2
     exact ⟨F2, Mono.laid tk hp, .tup aq0 (.cons (.str _) (.cons (((rv.keep kp)).keep (Mono.laid tk hp).keep) .nil))⟩⟩
 ·cases hf
theorem Rpk.val {F : Addr -> Prop} {H : Hp} {k : Str} : ∀ {kvs : List (Key × V)} {kts : List (Str × T)} {t : T}, Rpk F H kvs kts -> kts.lookup k = some t -> ∃ v, valV kvs (Sum.inr k : Key) = some v /\ Rp F H v t
 | _, _, _, .nil, e => by simp at e
 | _, _, t, .cons (k := k0) h r, e => by
  rw [List.lookup_cons] at e
  by_cases hk : k0 = k
  ·rw [hk, beq_self_eq_true] at e
   cases e
   exact ⟨_, dE0 (by rw [hk]), h⟩
  ·have hb : (k == k0) = false := by simpa using fun z => hk z.symm
   rw [hb] at e
   obtain ⟨v, h1, h2⟩ := Rpk.val r e
   exact ⟨v, (dB0 (fun z => hk (Sum.inr.inj z))).trans h1, h2⟩
def gw0 : T -> T -> Option T | .dct kts, .str k => kts.lookup k | _, _ => none
theorem kJ0 (hu : X.A.units + 1 < cLine) (ha : BE X Y a f) (hb : BE X Y b g) (hs : NoSl b := by intro _ _; rfl) : SE X Y (.Subscript a b pos) (e2 gw0 f g) := PE.imp (mI0 hu ha hb hs) fun σ H Q ⟨F, ε, u, rl, hf, k⟩ => by
 unfold e2 at hf
 cases q1 : f ε with
 | none => rw [q1] at hf; cases hf
 | some s =>
  rw [q1] at hf
  cases q2 : g ε with
  | none => simp only [Option.bind_some, q2] at hf; cases hf
  | some t =>
   simp only [Option.bind_some, q2] at hf
   unfold gw0 at hf
   split at hf
   ·refine ⟨F, ε, _, rl, q1, fun F1 x H1 m1 r1 => ⟨F1, ε, _, rl.mono m1, q2, fun F2 y H2 m2 r2 => ?_⟩⟩
    obtain ⟨c, xs, rfl, hc, rs⟩ := (r1.keep m2).dct_
    obtain ⟨v, h1, h2⟩ := rs.val hf
    cases r2.str_
    exact ⟨c, v, rfl, .inl ⟨xs, Sum.inr _, hc, rfl, h1.symm⟩, k F2 v H2 (m1.trans m2) h2⟩
   ·cases hf
def putT (kts : List (Str × T)) (k : Str) (t : T) : List (Str × T) := if kts.any (fun kv => decide (kv.1 = k)) then kts.map (fun kv => if kv.1 = k then (kv.1, t) else kv) else kts ++ [(k, t)]
theorem Rpk.any {F : Addr -> Prop} {H : Hp} {k : Str} : ∀ {kvs : List (Key × V)} {kts : List (Str × T)}, Rpk F H kvs kts -> (kvs.any fun kv => decide (kv.1 = (Sum.inr k : Key))) = kts.any fun kv => decide (kv.1 = k)
 | _, _, .nil => rfl
 | _, _, .cons (k := k0) h r => by rw [List.any_cons, List.any_cons, Rpk.any r, mE0]
theorem Rpk.repl {F : Addr -> Prop} {H : Hp} {k : Str} {v : V} {t : T} (hv : Rp F H v t) : ∀ {kvs : List (Key × V)} {kts : List (Str × T)}, Rpk F H kvs kts ->
  Rpk F H (kvs.map fun kv => if kv.1 = (Sum.inr k : Key) then (kv.1, v) else kv) (kts.map fun kv => if kv.1 = k then (kv.1, t) else kv)
 | _, _, .nil => .nil
 | _, _, .cons (k := k0) h r => by
  rw [List.map_cons, List.map_cons]
  by_cases e : k0 = k
  ·rw [if_pos (by rw [e]), if_pos e]; exact .cons hv (Rpk.repl hv r)
  ·rw [if_neg (fun z => e (Sum.inr.inj z)), if_neg e]; exact .cons h (Rpk.repl hv r)
theorem Rpk.snoc {F : Addr -> Prop} {H : Hp} {k : Str} {v : V} {t : T} (hv : Rp F H v t) : ∀ {kvs : List (Key × V)} {kts : List (Str × T)}, Rpk F H kvs kts -> Rpk F H (kvs ++ [(Sum.inr k, v)]) (kts ++ [(k, t)])
 | _, _, .nil => .cons hv .nil
 | _, _, .cons h r => .cons h (Rpk.snoc hv r)
theorem Rpk.put {F : Addr -> Prop} {H : Hp} {k : Str} {v : V} {t : T} {kvs : List (Key × V)} {kts : List (Str × T)} (r : Rpk F H kvs kts) (hv : Rp F H v t) : Rpk F H (putK kvs (Sum.inr k) v) (putT kts k t) := by
 unfold putK putT
 rw [r.any]
 split
 ·exact r.repl hv
 ·exact r.snoc hv
def sDPut (i : Nat) (fk fv : En -> Option T) : En -> Option Fl := fun ε => match ε[i]? with
 | some (.ow (.dct kts)) => (fv ε).bind fun v => match fk ε with
  | some (.str k) => if kts.length < big then some (.nx (ε.set i (.ow (.dct (putT kts k v))))) else none
  | _ => none
 | _ => none
theorem oa0 {i : Nat} {x : Str} {px pos' : Pos} (hu : X.A.units + 1 < cLine) (hx : PE X (.Name x px) (tVar i)) (hk : BE X Y b g) (hv : SE X Y e f)
  (hs : swapsWith e (some (.Subscript (.Name x px) b pos')) pos.line X.env = pure false := by rfl) : SS X Y (.Assign [.Subscript (.Name x px) b pos'] e pos) (sDPut i g f) :=
 PS.imp (nZ0 hu hx hk hv hs) fun D σ H ⟨F, ε, fl, r, hg, k⟩ => by
  unfold sDPut at hg
  split at hg
  ·rename_i kts e1
   obtain ⟨c, s1, nf, h0, hr⟩ := r.ow i _ e1
   cases q : f ε with
   | none => rw [q] at hg; cases hg
   | some t =>
    rw [q] at hg
    simp only [Option.bind_some] at hg
    split at hg
    ·split at hg
     ·rename_i ks qk hb
      cases hg
      obtain ⟨xs, ha, rs⟩ := hr.dct_
      refine ⟨F, ε, t, r, q, fun F1 v H1 m1 r1 => ⟨_, s1, F1, ε, _, r.mono m1, qk, fun F2 y H2 m2 r2 => ?_⟩⟩
      have m12 := m1.trans m2
      have ha2 := m12.ext _ _ ha
      cases r2.str_
      refine ⟨c, _, rfl, DPut.k (k := Sum.inr ks) ha2 (fF0 (by rw [rs.length]; exact hb)), ?_⟩
      have hne : ∀ ys, H2 c ≠ some (.tup ys) := fun ys z => by rw [ha2] at z; cases z
      have kp : Keep F2 H2 F2 (upd H2 c (.dK (putK xs (Sum.inr ks) v))) := by
       have nf1 : ¬ F2 c := fun z => (m12.new c z).elim nf fun w => by rw [ha] at w; cases w
       exact ⟨fun _ h => h, fun b u f q => by rw [an0 (fun (z : b = c) => nf1 (z ▸ f))]; exact q, fun b ys q => by rw [an0 (fun (z : b = c) => hne ys (z ▸ q))]; exact q⟩
      obtain ⟨r3, k3⟩ := (r.mono m12).write (o := .dK (putK xs (Sum.inr ks) v)) (t' := .dct (putT kts ks t)) e1 s1 hne (.dct aq0 (((rs.keep m12.keep).put (r1.keep m2.keep)).keep kp))
      exact k F2 σ _ (m12.keep.trans k3) r3
     ·cases hg
    ·cases hg
  ·cases hg
def io0 : List T -> Option T | [.dct kts] => some (.dct kts) | _ => none
theorem ia0 : di0 X (.type "dict") (fun xs H Q => ∃ (a : Addr) (kvs : List (Key × V)), xs = [.ref a] /\ Rd H a (.dK kvs) /\ ∀ p, H p = none -> Q (.ref p) (upd H p (.dK kvs))) := by
 intro pins s σ H xs us Q I r h
 obtain ⟨a, kvs, rfl, ha, q⟩ := h
 obtain ⟨u, rfl, ru⟩ := hO0 r
 cases ru
 exact lE0 I ha fun p s' hp I' => ⟨.ref p, _, I', rfl, q p hp⟩
theorem oK0 : OpNF (fun xs H Q => ∃ (a : Addr) (kvs : List (Key × V)), xs = [.ref a] /\ Rd H a (.dK kvs) /\ ∀ p, H p = none -> Q (.ref p) (upd H p (.dK kvs))) io0 := by
 intro F H xs ts u Q tk r h k
 unfold io0 at h
 split at h
 ·obtain ⟨x, rfl, rx⟩ := Rbs.one r
  obtain ⟨a, ys, rfl, ha, ry⟩ := rx.dct_
  cases h
  exact ⟨_, _, rfl, ha, fun l hl => k F _ _ (Mono.laid tk hl) hl (Trk.new tk hl) (.dct aq0 (ry.keep (Mono.laid tk hl).keep))⟩
 ·cases h
theorem kX0 (hg : Gl X "dict") (hm : X.mg "dict" = none) (ha : BA X Y [a] fa) (hv : bootBuiltins "dict" = some (.type "dict") := by rfl) (he : starEach [a] X.env = [(false, eval a X.env)] := by rfl) : FE X Y (.Call (.Name "dict" p) [a] [] pos) (ao0 io0 fa) := fG0 ia0 oK0 hg hm hv ha (by decide) (by decide) he rfl
def eBM (φ : T -> List T -> Option T) (fo : En -> Option T) (fa : En -> Option (List T)) : En -> Option T := fun ε => (fo ε).bind fun o => (fa ε).bind fun ts => φ o ts
def OpM (r : V -> List V -> Hp -> VK -> Prop) (φ : T -> List T -> Option T) : Prop := ∀ F H x xs s ts u Q, Trk F H -> Rb F H x s -> Rbs F H xs ts -> φ s ts = some u -> (∀ F' v H', Mono F H F' H' -> Rp F' H' v u -> Q v H') -> r x xs H Q
theorem mR0 {K : PySem.W.Frag} : OpM (fun x vs H Q => ∃ (l : Addr) (xs : List V) (y : V) (j : Nat), x = .ref l /\ vs = [y] /\ SqL K H l xs /\ bR0 y = true /\ xs.all bR0 = true /\ xs.length <= big /\ (xs.findIdx? fun z => eqV z y) = some j /\ Q (.int (j : Int)) H) cG0 := by
 intro F H x xs s ts u Q tk rx rs h k
 unfold cG0 at h
 split at h
 ·split at h
  ·rename_i us s' hf
   rw [Bool.and_eq_true, Bool.and_eq_true, decide_eq_true_eq] at hf
   obtain ⟨y, rfl, ry⟩ := Rbs.one rs
   obtain ⟨a, ys, rfl, ha, r⟩ := rx.lst_
   obtain ⟨e1, f1⟩ := ry.flat hf.1.1
   obtain ⟨e2, f2⟩ := r.flat hf.1.2
   cases q : idxT us s' with
   | none => rw [q] at h; cases h
   | some j =>
    rw [q] at h; cases h
    refine ⟨a, ys, y, j, rfl, rfl, SqL.of ha, f1, f2, by rw [r.length]; exact hf.2, ?_, k F _ H (.refl tk) (.int _)⟩
    rw [e1, e2, List.findIdx?_map]
    exact q
  ·cases h
 ·cases h
theorem nN0 {K : PySem.W.Frag} : OpM (fun x vs H Q => ∃ (l : Addr) (xs : List V) (y : V), x = .ref l /\ vs = [y] /\ SqL K H l xs /\ bR0 y = true /\ xs.all bR0 = true /\ Q (.int ((xs.countP fun z => eqV z y : Nat) : Int)) H) cX0 := by
 intro F H x xs s ts u Q tk rx rs h k
 unfold cX0 at h
 split at h
 ·split at h
  ·rename_i us s' hf
   rw [Bool.and_eq_true] at hf
   cases h
   obtain ⟨y, rfl, ry⟩ := Rbs.one rs
   obtain ⟨a, ys, rfl, ha, r⟩ := rx.lst_
   obtain ⟨e1, f1⟩ := ry.flat hf.1
   obtain ⟨e2, f2⟩ := r.flat hf.2
   refine ⟨a, ys, y, rfl, rfl, SqL.of ha, f1, f2, ?_⟩
   rw [e1, e2, List.countP_map]
   exact k F _ H (.refl tk) (.int _)
  ·cases h
 ·cases h
theorem ld0 {K : PySem.W.Frag} : OpM (fun x vs H Q => ∃ (l : Addr) (xs : List V) (y : V), x = .ref l /\ vs = [y] /\ SqT K H l xs /\ bR0 y = true /\ xs.all bR0 = true /\ Q (.int ((xs.countP fun z => eqV z y : Nat) : Int)) H) cT0 := by
 intro F H x xs s ts u Q tk rx rs h k
 unfold cT0 at h
 split at h
 ·split at h
  ·rename_i us s' hf
   rw [Bool.and_eq_true] at hf
   cases h
   obtain ⟨y, rfl, ry⟩ := Rbs.one rs
   obtain ⟨a, ys, rfl, ha, r⟩ := rx.tup_
   obtain ⟨e1, f1⟩ := ry.flat hf.1
   obtain ⟨e2, f2⟩ := r.flat hf.2
   refine ⟨a, ys, y, rfl, rfl, SqT.of ha, f1, f2, ?_⟩
   rw [e1, e2, List.countP_map]
   exact k F _ H (.refl tk) (.int _)
  ·cases h
 ·cases h
theorem hD0 {φ : T -> List T -> Option T} {ε : En} {u : T} (q : eBM φ f fa ε = some u) : ∃ s ts, f ε = some s /\ fa ε = some ts /\ φ s ts = some u := by
 unfold eBM at q
 cases q1 : f ε with
 | none => rw [q1] at q; cases q
 | some s =>
  rw [q1] at q
  cases q2 : fa ε with
  | none => simp only [Option.bind_some, q2] at q; cases q
  | some ts => simp only [Option.bind_some, q2] at q; exact ⟨s, ts, rfl, rfl, q⟩
theorem ms0 {name : Str} {id : String} {r : V -> List V -> Hp -> VK -> Prop} {φ : T -> List T -> Option T} (slot : Slot "list" name id) (hty : typeOf (.builtin id) = pure (.type "method_descriptor")) (hm : MtR X id r) (om : OpM r φ) (hl : ∀ s ts u, φ s ts = some u -> ∃ us, s = .lst us) (ho : BE X Y o f) (ha : BA X Y [e] fa)
  (hbase : attributeBase o name X.env (eval o X.env) = eval o X.env := by rfl)
  (hfew : ((backTo cpos (starEach [e] X.env)).all (fun x => !x.1) && (backToKw cpos (keywordEach [] X.env)).all (fun x => x.1.isSome)
   && decide (([e] : List Expr).length + ([] : List Keyword).length + (if ([] : List Keyword).isEmpty then 0 else 1) < 30)) = true := by rfl)
  (hline : (apos.endLine == cpos.line) = true := by rfl) (hs : starEach [e] X.env = [(false, eval e X.env)] := by rfl) : SE X Y (.Call (.Attribute o name apos) [e] [] cpos) (eBM φ f fa) :=
 PE.imp (jV0 PySem.F.plainAttrs_list slot hty hm ho ha hbase hfew hline hs rfl) fun σ H Q ⟨F, ε, u, rl, hf, k⟩ => by
  obtain ⟨s, ts, q1, q2, q3⟩ := hD0 hf
  obtain ⟨us, rfl⟩ := hl _ _ _ q3
  refine ⟨F, ε, _, rl, q1, fun F1 x H1 m1 r1 => ?_⟩
  obtain ⟨a, xs, e1, ha1, _⟩ := r1.lst_
  refine ⟨by rw [e1]; exact .inl ⟨rfl, xs, SqL.of ha1⟩, F1, ε, ts, rl.mono m1, q2, fun F2 ys H2 m2 r2 => om F2 H2 x ys _ ts u Q m2.trk (r1.keep m2) r2 q3 fun F3 v H3 m3 r3 => k F3 v H3 ((m1.trans m2).trans m3) r3⟩
theorem gD0 (ho : BE X Y o f) (ha : BA X Y [e] fa) (hbase : attributeBase o "index" X.env (eval o X.env) = eval o X.env := by rfl)
  (hfew : ((backTo cpos (starEach [e] X.env)).all (fun x => !x.1) && (backToKw cpos (keywordEach [] X.env)).all (fun x => x.1.isSome)
   && decide (([e] : List Expr).length + ([] : List Keyword).length + (if ([] : List Keyword).isEmpty then 0 else 1) < 30)) = true := by rfl)
  (hline : (apos.endLine == cpos.line) = true := by rfl) (hs : starEach [e] X.env = [(false, eval e X.env)] := by rfl) : SE X Y (.Call (.Attribute o "index" apos) [e] [] cpos) (eBM cG0 f fa) :=
 ms0 PySem.F.slot_list_index PySem.F.type_list_index lD0 mR0 (fun s ts u q => by unfold cG0 at q; split at q; exact ⟨_, rfl⟩; cases q) ho ha hbase hfew hline hs
theorem hJ0 (ho : BE X Y o f) (ha : BA X Y [e] fa) (hbase : attributeBase o "count" X.env (eval o X.env) = eval o X.env := by rfl)
  (hfew : ((backTo cpos (starEach [e] X.env)).all (fun x => !x.1) && (backToKw cpos (keywordEach [] X.env)).all (fun x => x.1.isSome)
   && decide (([e] : List Expr).length + ([] : List Keyword).length + (if ([] : List Keyword).isEmpty then 0 else 1) < 30)) = true := by rfl)
  (hline : (apos.endLine == cpos.line) = true := by rfl) (hs : starEach [e] X.env = [(false, eval e X.env)] := by rfl) : SE X Y (.Call (.Attribute o "count" apos) [e] [] cpos) (eBM cX0 f fa) :=
 ms0 PySem.F.slot_list_count PySem.F.type_list_count mb0 nN0 (fun s ts u q => by unfold cX0 at q; split at q; exact ⟨_, rfl⟩; cases q) ho ha hbase hfew hline hs
theorem iG0 (ho : BE X Y o f) (ha : BA X Y [e] fa) (hbase : attributeBase o "count" X.env (eval o X.env) = eval o X.env := by rfl)
  (hfew : ((backTo cpos (starEach [e] X.env)).all (fun x => !x.1) && (backToKw cpos (keywordEach [] X.env)).all (fun x => x.1.isSome)
   && decide (([e] : List Expr).length + ([] : List Keyword).length + (if ([] : List Keyword).isEmpty then 0 else 1) < 30)) = true := by rfl)
  (hline : (apos.endLine == cpos.line) = true := by rfl) (hs : starEach [e] X.env = [(false, eval e X.env)] := by rfl) : SE X Y (.Call (.Attribute o "count" apos) [e] [] cpos) (eBM cT0 f fa) := by
 intro pins s σ H Q I hw
 obtain ⟨F, ε, u, rl, hf, k⟩ := hw
 obtain ⟨t, ts, q1, q2, q3⟩ := hD0 hf
 obtain ⟨us, rfl⟩ : ∃ us, t = .tup us := by unfold cT0 at q3; split at q3; exact ⟨_, rfl⟩; cases q3
 refine wpAny_Call_method_late hbase hfew hline rfl (thn (ho pins s σ H (fun x H1 => ∃ F1, Mono F H F1 H1 /\ Rb F1 H1 x (.tup us)) I ⟨F, ε, _, rl, q1, fun F1 v H1 m1 r1 => ⟨F1, m1, r1⟩⟩) fun v s1 ⟨x, H1, I1, r1, F1, m1, rb⟩ => ?_)
 obtain ⟨a, xs, rfl, ha1, _⟩ := rb.tup_
 cases r1
 obtain ⟨_, its, _, p, ob, hob, hod⟩ := (show ObjOk X.prog X.w H1 s1.heap a (.tup xs) from I1.hok a _ ha1)
 refine ⟨"tuple", "tuple.count", PySem.F.plainAttrs_tuple, PySem.F.slot_tuple_count, PySem.F.type_tuple_count, p.typeIs, fun b e => ?_, ?_⟩
 ·cases e
  exact ⟨ob, hob, hod⟩
 have hA := ha cpos pins s1 σ H1 (fun ys H2 => ∃ F2, Mono F1 H1 F2 H2 /\ Rbs F2 H2 ys ts) I1 ⟨F1, ε, ts, rl.mono m1, q2, fun F2 ys H2 m2 r2 => ⟨F2, m2, r2⟩⟩
 rw [hs] at hA ⊢
 refine Calls.callWith_builtin rfl (Calls.evalArgs_plain ?_)
 exact thn hA fun us' s2 ⟨vs, H2, I2, r2, F2, m2, rb2⟩ => iI0 pins s2 σ H2 (.ref a) vs (.ref a) us' Q I2 rfl r2 (ld0 F2 H2 _ vs _ ts u Q m2.trk (rb.keep m2) rb2 q3 fun F3 v H3 m3 r3 => k F3 v H3 ((m1.trans m2).trans m3) r3)
end
end L2.BD
set_option Elab.async false
set_option linter.all false
set_option maxRecDepth 100000
set_option maxHeartbeats 4000000
namespace L2
open PySem PySem.Spec PyProof.Rows
section
variable {prog : Program} {w : World} {A : Around} {E : Value -> Shared -> Prop} {s : Shared}
theorem dp0 {u t : Addr} {i : Nat} {its : Array Value} {x : Value} {Q : Value -> Shared -> Prop} (hu : s.heap.IsTupleIter u t i) (ht : s.heap.IsTuple t its) (hx : its[i]? = some x)
  (k : ∀ h', h'.IsTupleIter u t (i + 1) -> Heap.SameBut u s.heap h' -> Q x { s with heap := h' }) : wpAny (model prog w) A (Builtin.SmallTypes.nextOf (.ref u)) Q E s := by
 obtain ⟨ou, gu, cu, du⟩ := id hu
 obtain ⟨ot, gt, _, nt, dt⟩ := ht
 unfold Builtin.SmallTypes.nextOf
 refine wpAny_bind (wpAny_callSpecial?_slot (name := Str.ofString "__next__") hu.typeIs F.slot_tuple_iterator_next (wpAny_call_entry F.slot_tuple_iterator_next hu.typeIs F.entry_tuple_iterator_next ?_ (F.args_tuple_iterator_next_1 _)))
 show wpAny _ _ (field (.ref u) 0 >>= _) _ _ s; refine wpAny_bind (wpAny_field gu du (x := .ref t) rfl ?_)
 show wpAny _ _ (if (Value.ref t == Value.none) = true then _ else _) _ _ s; rw [if_neg (by exact Bool.false_ne_true)]
 show wpAny _ _ (field (.ref u) 1 >>= _) _ _ s; refine wpAny_bind (wpAny_field gu du (x := .int i 0) rfl ?_)
 show wpAny _ _ (seqItems? (.ref t) >>= _) _ _ s; refine wpAny_bind (wpAny_seqItems gt dt ?_); simp only [Int.toNat_natCast, hx]
 refine wpAny_bind (wpAny_setField gu du (by simp) (wpAny_pure ⟨x, rfl, wpAny_pure (k _ ⟨_, Heap.get?_update_self _ gu (Obj.isFreed_of_fields (Obj.data_mapFields du _)), (Obj.cls_mapFields ..).trans cu, ?_⟩ (Heap.SameBut.update ..))⟩))
 rw [Obj.data_mapFields du]; simp [rawInt]
theorem fT0 {u t : Addr} {i : Nat} {its : Array Value} {Q : Value -> Shared -> Prop} (hh : A.handled = none) (hu : s.heap.IsTupleIter u t i) (ht : s.heap.IsTuple t its) (hx : its[i]? = none)
  (k : ∀ h' e, Heap.ExtBut u s.heap h' -> (∃ o, h'.get? e = some o /\ o.cls = .type "StopIteration") -> E (.ref e) { s with heap := h' }) : wpAny (model prog w) A (Builtin.SmallTypes.nextOf (.ref u)) Q E s := by
 obtain ⟨ou, gu, cu, du⟩ := id hu
 obtain ⟨ot, gt, _, nt, dt⟩ := ht
 unfold Builtin.SmallTypes.nextOf
 refine wpAny_bind (wpAny_callSpecial?_slot (name := Str.ofString "__next__") hu.typeIs F.slot_tuple_iterator_next (wpAny_call_entry F.slot_tuple_iterator_next hu.typeIs F.entry_tuple_iterator_next ?_ (F.args_tuple_iterator_next_1 _)))
 show wpAny _ _ (field (.ref u) 0 >>= _) _ _ s; refine wpAny_bind (wpAny_field gu du (x := .ref t) rfl ?_)
 show wpAny _ _ (if (Value.ref t == Value.none) = true then _ else _) _ _ s; rw [if_neg (by exact Bool.false_ne_true)]
 show wpAny _ _ (field (.ref u) 1 >>= _) _ _ s; refine wpAny_bind (wpAny_field gu du (x := .int i 0) rfl ?_)
 show wpAny _ _ (seqItems? (.ref t) >>= _) _ _ s; refine wpAny_bind (wpAny_seqItems gt dt ?_); simp only [Int.toNat_natCast, hx]
 refine wpAny_bind (wpAny_rule (wpAny_bind (wpAny_setField gu du (by simp) ?_))); show wpAny _ _ (newExc (.type "StopIteration") [] >>= _) _ _ _
 refine wpAny_bind ?_; simp only [newExc, newTuple]; refine wpAny_bind (wpAny_newObj_type ?_ (by size_fits))
 refine wpAny_bind (m := firstArgMember _ _) (wpAny_of_eq (a := Value.none) (by first | rfl | (simp only [firstArgMember]; rfl)) (wpAny_newObj_type ?_ (by size_fits)))
 simp only [raiseNew]; refine wpAny_bind (wpAny_handled ?_); (first | rw [show A.in1.handled = none from hh] | rw [hh])
 exact wpAny_bind (wpAny_pure (wpAny_throw (k _ _ (((Heap.SameBut.update ..).extBut.push _).push _) ⟨_, Heap.get?_push_size _ rfl, rfl⟩)))
theorem kF0 {z ti to' u1 u2 l1 l2 : Addr} {k1 k2 : Nat} {xs ys : Array Value} {x y a b : Value} {Q : Value -> Shared -> Prop} (D : ZipApart z ti to' u1 u2 l1 l2)
  (gz : IsZip s.heap z ti to' .none) (gi : IsPair s.heap ti (.ref u1) (.ref u2)) (go : IsPair s.heap to' a b) (g1 : s.heap.IsTupleIter u1 l1 k1) (g2 : s.heap.IsTupleIter u2 l2 k2) (gl1 : s.heap.IsTuple l1 xs) (gl2 : s.heap.IsTuple l2 ys) (hx : xs[k1]? = some x) (hy : ys[k2]? = some y)
  (k : ∀ h', IsZip h' z ti to' (rawInt s.heap.objs.size) -> IsPair h' to' x y -> h'.IsTupleIter u1 l1 (k1 + 1) -> h'.IsTupleIter u2 l2 (k2 + 1) -> IsPair h' s.heap.objs.size x y -> h'.objs.size = s.heap.objs.size + 1 ->
   (∀ c o, c ≠ z -> c ≠ to' -> c ≠ u1 -> c ≠ u2 -> s.heap.get? c = some o -> h'.get? c = some o) -> Q (.ref s.heap.objs.size) { s with heap := h' }) :
  wpAny (model prog w) A (Builtin.«zip.__next__» ⟨[.ref z], []⟩) (fun fin s' => ∃ v, fin = .done (.ret v) /\ Q v s') E s := by
 show wpAny _ _ (field (.ref z) 2 >>= _) _ _ s; refine wpAny_bind (wpAny_field gz rfl (x := .bool false) rfl ?_)
 show wpAny _ _ (field (.ref z) 3 >>= _) _ _ s; refine wpAny_bind (wpAny_field gz rfl (x := .ref ti) rfl (wpAny_bind (wpAny_seqItems gi rfl ?_)))
 show wpAny _ _ (Builtin.SmallTypes.ownedTupleIsFree (.ref z) >>= _) _ _ s; refine wpAny_bind ?_; unfold Builtin.SmallTypes.ownedTupleIsFree
 refine wpAny_bind (wpAny_field gz rfl (x := .none) rfl (wpAny_pure ?_)); simp only [if_true]; refine wpAny_bind (wpAny_rule (wpAny_bind (wpAny_field gz rfl (x := .ref to') rfl ?_)))
 refine wpAny_bind (wpAny_setField_rec gz (by simp) fun ha gza sa => ?_); replace gza : IsZip ha z ti to' .ellipsis := gza
 refine wpAny_bind ?_; simp only [List.zipIdx_cons, List.zipIdx_nil, List.forIn_cons, List.forIn_nil]; refine wpAny_bind (wpAny_bind (wpAny_onRaise ?_))
 show wpAny _ _ (Builtin.SmallTypes.nextOf (.ref u1) >>= _) _ _ _; refine wpAny_bind (dp0 (g1.extBut sa.extBut D.i1z) (gl1.extBut sa.extBut D.l1z) hx fun hb g1b sb => wpAny_pure ?_)
 have gob : IsPair hb to' a b := sb.extBut _ _ D.TOi1 (sa.extBut _ _ D.TOz go)
 refine wpAny_bind (wpAny_seqItems gob rfl (wpAny_bind (wpAny_updateSeq_pair gob fun hc goc sc => ?_))); replace goc : IsPair hc to' x b := goc
 refine wpAny_bind (wpAny_letGo (wpAny_pure (wpAny_bind (wpAny_bind (wpAny_onRaise ?_)))))
 show wpAny _ _ (Builtin.SmallTypes.nextOf (.ref u2) >>= _) _ _ _
 refine wpAny_bind (dp0 (((g2.extBut sa.extBut D.i2z).extBut sb.extBut D.i12.symm).extBut sc.extBut D.TOi2.symm) (((gl2.extBut sa.extBut D.l2z).extBut sb.extBut D.l2i1).extBut sc.extBut D.l2TO) hy fun hd g2d sd => wpAny_pure ?_)
 have god : IsPair hd to' x b := sd.extBut _ _ D.TOi2 goc
 refine wpAny_bind (wpAny_seqItems god rfl (wpAny_bind (wpAny_updateSeq_pair god fun he goe se => ?_))); replace goe : IsPair he to' x y := goe
 refine wpAny_bind (wpAny_letGo (wpAny_pure (wpAny_pure (wpAny_bind (wpAny_seqItems goe rfl (wpAny_bind (wpAny_newTuple ?_)))))))
 have sz : he.objs.size = s.heap.objs.size := by rw [se.1, sd.1, sc.1, sb.1, sa.1]
 have gze : IsZip he z ti to' .ellipsis := se.extBut _ _ D.TOz.symm (sd.extBut _ _ D.i2z.symm (sc.extBut _ _ D.TOz.symm (sb.extBut _ _ D.i1z.symm gza)))
 have ke : ∀ c o, c ≠ z -> c ≠ to' -> c ≠ u1 -> c ≠ u2 -> s.heap.get? c = some o -> he.get? c = some o := fun c o n1 n2 n3 n4 g => se.extBut _ _ n2 (sd.extBut _ _ n4 (sc.extBut _ _ n2 (sb.extBut _ _ n3 (sa.extBut _ _ n1 g))))
 have g1e : he.IsTupleIter u1 l1 (k1 + 1) := ((g1b.extBut sc.extBut D.TOi1.symm).extBut sd.extBut D.i12).extBut se.extBut D.TOi1.symm
 have g2e : he.IsTupleIter u2 l2 (k2 + 1) := g2d.extBut se.extBut D.TOi2.symm
 have zlt : z < he.objs.size := Heap.lt_size gze
 show wpAny _ _ (Builtin.SmallTypes.ownedTupleHandOut (.ref z) (.ref he.objs.size) >>= _) _ _ _; refine wpAny_bind ?_; unfold Builtin.SmallTypes.ownedTupleHandOut
 have gzf : IsZip (he.push { cls := .type "tuple", data := .seq #[x, y] }) z ti to' .ellipsis := Heap.get?_push_of_some _ gze
 refine wpAny_bind (wpAny_setField_rec gzf (by simp) fun hg gzg sg => ?_); replace gzg : IsZip hg z ti to' (rawInt he.objs.size) := gzg
 refine wpAny_setField_rec gzg (by simp) fun hi gzi si => ?_; replace gzi : IsZip hi z ti to' (rawInt he.objs.size) := gzi
 have up : ∀ c o, c ≠ z -> he.get? c = some o -> hi.get? c = some o := fun c o n g => si.extBut _ _ n (sg.extBut _ _ n (Heap.get?_push_of_some _ g))
 have gti : IsPair hi he.objs.size x y := si.extBut _ _ (Nat.ne_of_gt zlt) (sg.extBut _ _ (Nat.ne_of_gt zlt) (Heap.get?_push_size _ rfl))
 have szi : hi.objs.size = he.objs.size + 1 := by rw [si.1, sg.1, Heap.size_push]
 rw [sz] at gzi gti szi
 refine wpAny_pure ⟨_, rfl, ?_⟩; show Q (.ref he.objs.size) _; rw [sz]
 have at1 : ∀ {h h' : Heap} {u l : Addr} {i : Nat}, h.IsTupleIter u l i -> (∀ o, h.get? u = some o -> h'.get? u = some o) -> h'.IsTupleIter u l i := fun ⟨o, e, r⟩ f => ⟨o, f o e, r⟩
 exact k hi gzi (up _ _ D.TOz goe) (at1 g1e fun o g => up _ o D.i1z g) (at1 g2e fun o g => up _ o D.i2z g) gti szi fun c o n1 n2 n3 n4 g => up c o n1 (ke c o n1 n2 n3 n4 g)
theorem ma0 {z ti to' u1 u2 l1 l2 : Addr} {k1 k2 : Nat} {xs ys : Array Value} {a b : Value} {Q : Fin -> Shared -> Prop} (hh : A.handled = none) (D : ZipApart z ti to' u1 u2 l1 l2)
  (gz : IsZip s.heap z ti to' .none) (gi : IsPair s.heap ti (.ref u1) (.ref u2)) (go : IsPair s.heap to' a b) (g1 : s.heap.IsTupleIter u1 l1 k1) (g2 : s.heap.IsTupleIter u2 l2 k2) (gl1 : s.heap.IsTuple l1 xs) (gl2 : s.heap.IsTuple l2 ys) (hend : xs[k1]? = none \/ ys[k2]? = none)
  (k : ∀ h' e, (∀ c o, c ≠ z -> c ≠ to' -> c ≠ u1 -> c ≠ u2 -> s.heap.get? c = some o -> h'.get? c = some o) -> (∃ o, h'.get? e = some o /\ o.cls = .type "StopIteration") -> E (.ref e) { s with heap := h' }) :
  wpAny (model prog w) A (Builtin.«zip.__next__» ⟨[.ref z], []⟩) Q E s := by
 show wpAny _ _ (field (.ref z) 2 >>= _) _ _ s; refine wpAny_bind (wpAny_field gz rfl (x := .bool false) rfl ?_)
 show wpAny _ _ (field (.ref z) 3 >>= _) _ _ s; refine wpAny_bind (wpAny_field gz rfl (x := .ref ti) rfl (wpAny_bind (wpAny_seqItems gi rfl ?_)))
 show wpAny _ _ (Builtin.SmallTypes.ownedTupleIsFree (.ref z) >>= _) _ _ s; refine wpAny_bind ?_; unfold Builtin.SmallTypes.ownedTupleIsFree
 refine wpAny_bind (wpAny_field gz rfl (x := .none) rfl (wpAny_pure ?_)); simp only [if_true]; refine wpAny_bind (wpAny_rule (wpAny_bind (wpAny_field gz rfl (x := .ref to') rfl ?_)))
 refine wpAny_bind (wpAny_setField_rec gz (by simp) fun ha gza sa => ?_); replace gza : IsZip ha z ti to' .ellipsis := gza
 refine wpAny_bind ?_; simp only [List.zipIdx_cons, List.zipIdx_nil, List.forIn_cons, List.forIn_nil]; refine wpAny_bind (wpAny_bind (wpAny_onRaise ?_))
 show wpAny _ _ (Builtin.SmallTypes.nextOf (.ref u1) >>= _) _ _ _
 cases hx : xs[k1]? with
 | none =>
  refine wpAny_bind (fT0 hh (g1.extBut sa.extBut D.i1z) (gl1.extBut sa.extBut D.l1z) hx fun hb e sb ge => ?_)
  obtain ⟨oe, goe, ce⟩ := ge
  have gzb : IsZip hb z ti to' .ellipsis := sb _ _ D.i1z.symm gza
  have nez : e ≠ z := fun q => by subst q; rw [gzb] at goe; cases goe; simp at ce
  exact wpAny_setField_rec gzb (by simp) fun hc _ sc => k hc e (fun c o n1 _ n3 _ g => sc.extBut _ _ n1 (sb _ _ n3 (sa.extBut _ _ n1 g))) ⟨oe, sc.extBut _ _ nez goe, ce⟩
 | some x =>
  have hy : ys[k2]? = none := by
   rcases hend with q | q
   ·rw [hx] at q; cases q
   ·exact q
  refine wpAny_bind (dp0 (g1.extBut sa.extBut D.i1z) (gl1.extBut sa.extBut D.l1z) hx fun hb g1b sb => wpAny_pure ?_)
  have gob : IsPair hb to' a b := sb.extBut _ _ D.TOi1 (sa.extBut _ _ D.TOz go)
  refine wpAny_bind (wpAny_seqItems gob rfl (wpAny_bind (wpAny_updateSeq_pair gob fun hc goc sc => wpAny_bind (wpAny_letGo (wpAny_pure (wpAny_bind (wpAny_bind (wpAny_onRaise ?_))))))))
  show wpAny _ _ (Builtin.SmallTypes.nextOf (.ref u2) >>= _) _ _ _
  refine wpAny_bind (fT0 hh (((g2.extBut sa.extBut D.i2z).extBut sb.extBut D.i12.symm).extBut sc.extBut D.TOi2.symm) (((gl2.extBut sa.extBut D.l2z).extBut sb.extBut D.l2i1).extBut sc.extBut D.l2TO) hy fun hd e sd ge => ?_)
  obtain ⟨oe, goe, ce⟩ := ge
  have gzd : IsZip hd z ti to' .ellipsis := sd _ _ D.i2z.symm (sc.extBut _ _ D.TOz.symm (sb.extBut _ _ D.i1z.symm gza))
  have nez : e ≠ z := fun q => by subst q; rw [gzd] at goe; cases goe; simp at ce
  exact wpAny_setField_rec gzd (by simp) fun hf _ sf => k hf e (fun c o n1 n2 n3 n4 g => sf.extBut _ _ n1 (sd _ _ n4 (sc.extBut _ _ n2 (sb.extBut _ _ n3 (sa.extBut _ _ n1 g))))) ⟨oe, sf.extBut _ _ nez goe, ce⟩
abbrev tzH1 (h : Heap) (l1 : Addr) : Heap := h.push { cls := .type "tuple_iterator", data := .fields #[.ref l1, .int 0 0] }
abbrev tzH2 (h : Heap) (l1 l2 : Addr) : Heap := (tzH1 h l1).push { cls := .type "tuple_iterator", data := .fields #[.ref l2, .int 0 0] }
abbrev tzH3 (h : Heap) (l1 l2 : Addr) : Heap := (tzH2 h l1 l2).push { cls := .type "tuple", data := .seq #[.ref h.objs.size, .ref (tzH1 h l1).objs.size] }
abbrev tzH4 (h : Heap) (l1 l2 : Addr) : Heap := (tzH3 h l1 l2).push { cls := .type "tuple", data := .seq #[.none, .none] }
abbrev tzH5 (h : Heap) (l1 l2 : Addr) : Heap := (tzH4 h l1 l2).push { cls := .type "zip", data := .fields #[.none, .bool false, .bool false, .ref (tzH2 h l1 l2).objs.size, .ref (tzH3 h l1 l2).objs.size] }
theorem lS0 (l1 l2 : Addr) (xs ys : Array Value) : Meets (Builtin.«zip.__new__» ⟨[.type "zip", .ref l1, .ref l2], []⟩) (fun _ R s => s.heap.IsTuple l1 xs /\ s.heap.IsTuple l2 ys /\ R (.ok (.ret (.ref (tzH4 s.heap l1 l2).objs.size))) { s with heap := tzH5 s.heap l1 l2 }) :=
 .of_wp fun prog w A R s h => by
  obtain ⟨hp, g, d, tk, os⟩ := s
  obtain ⟨g1, g2, h⟩ := h
  have hsub := sub_zip
  have q1 : Heap.IsTuple (Shared.heap ⟨hp, g, d, tk, os⟩) l1 xs := g1
  have q2 : Heap.IsTuple (Shared.heap ⟨hp.push { cls := .type "tuple_iterator", data := .fields #[.ref l1, .int 0 0] }, g, d, tk, os⟩) l2 ys := Heap.IsTuple.push g2 _
  wp_walk using wpAny_pyIter_tuple q1, wpAny_pyIter_tuple q2
  exact ⟨_, rfl, h⟩
theorem kD0 {l1 l2 : Addr} {xs ys : Array Value} {Q : Value -> Shared -> Prop} (g1 : s.heap.IsTuple l1 xs) (g2 : s.heap.IsTuple l2 ys)
  (k : ∀ h', IsZip h' (s.heap.objs.size + 4) (s.heap.objs.size + 2) (s.heap.objs.size + 3) .none -> IsPair h' (s.heap.objs.size + 2) (.ref s.heap.objs.size) (.ref (s.heap.objs.size + 1)) -> IsPair h' (s.heap.objs.size + 3) .none .none ->
   h'.IsTupleIter s.heap.objs.size l1 0 -> h'.IsTupleIter (s.heap.objs.size + 1) l2 0 -> h'.objs.size = s.heap.objs.size + 5 -> (∀ c o, s.heap.get? c = some o -> h'.get? c = some o) -> Q (.ref (s.heap.objs.size + 4)) { s with heap := h' }) :
  wpAny (model prog w) A (call (.type "zip") [.ref l1, .ref l2]) Q E s := by
 refine callType_new F.called_zip (by decide) (F.typeCall_zip_2 _ _) (F.newCall_zip_2 _ _) (fun obj => F.args_object_init_3 obj _ _) F.entry_zip_new (lS0 l1 l2 xs ys) ⟨g1, g2, ?_⟩
 have z1 : (tzH1 s.heap l1).objs.size = s.heap.objs.size + 1 := Heap.size_push ..
 have z2 : (tzH2 s.heap l1 l2).objs.size = s.heap.objs.size + 2 := by rw [Heap.size_push, z1]
 have z3 : (tzH3 s.heap l1 l2).objs.size = s.heap.objs.size + 3 := by rw [Heap.size_push, z2]
 have z4 : (tzH4 s.heap l1 l2).objs.size = s.heap.objs.size + 4 := by rw [Heap.size_push, z3]
 have z5 : (tzH5 s.heap l1 l2).objs.size = s.heap.objs.size + 5 := by rw [Heap.size_push, z4]
 have f5 : (tzH5 s.heap l1 l2).get? (tzH4 s.heap l1 l2).objs.size = some _ := Heap.get?_push_size _ rfl
 have f4 : (tzH5 s.heap l1 l2).get? (tzH3 s.heap l1 l2).objs.size = some _ := Heap.get?_push_of_some _ (Heap.get?_push_size _ rfl)
 have f3 : (tzH5 s.heap l1 l2).get? (tzH2 s.heap l1 l2).objs.size = some _ := Heap.get?_push_of_some _ (Heap.get?_push_of_some _ (Heap.get?_push_size _ rfl))
 have f2 : (tzH5 s.heap l1 l2).get? (tzH1 s.heap l1).objs.size = some _ := Heap.get?_push_of_some _ (Heap.get?_push_of_some _ (Heap.get?_push_of_some _ (Heap.get?_push_size _ rfl)))
 have f1 : (tzH5 s.heap l1 l2).get? s.heap.objs.size = some _ := Heap.get?_push_of_some _ (Heap.get?_push_of_some _ (Heap.get?_push_of_some _ (Heap.get?_push_of_some _ (Heap.get?_push_size _ rfl))))
 show _ /\ _
 rw [z2, z3, z4] at f5; rw [z1, z2] at f3; rw [z3] at f4; rw [z1] at f2; rw [z4]
 exact ⟨⟨_, f5, rfl⟩, k _ f5 f3 f4 ⟨_, f1, rfl, rfl⟩ ⟨_, f2, rfl, rfl⟩ z5 fun c o g => Heap.get?_push_of_some _ (Heap.get?_push_of_some _ (Heap.get?_push_of_some _ (Heap.get?_push_of_some _ (Heap.get?_push_of_some _ g))))⟩
end
def Itz (K : PySem.W.Frag) (a b : Addr) : It :=
  ⟨fun i H => ∃ xs ys x y, SqT K H a xs /\ SqT K H b ys /\ xs[i]? = some x /\ ys[i]? = some y,
   fun i H v H' => ∃ p, H p = none /\ v = .ref p /\ ∀ xs ys, SqT K H a xs -> SqT K H b ys -> ∃ x y, xs[i]? = some x /\ ys[i]? = some y /\ H' = upd H p (.tup [x, y]),
   fun i H => ∃ xs ys, SqT K H a xs /\ SqT K H b ys /\ (xs.length <= i \/ ys.length <= i)⟩
theorem me0 {P : Program} {w : World} {K : PySem.W.Frag} {elts : List Expr} {x1 : Nat} {tp : Pos} {z ti to' u1 u2 a b : Addr} (D : ZipApart z ti to' u1 u2 a b) :
  Turn P w K (.Tuple elts x1 tp) (Itz K a b) [z, ti, to', u1, u2] z (fun i h => IsZip h z ti to' .none /\ IsPair h ti (.ref u1) (.ref u2) /\ (∃ c d, IsPair h to' c d) /\ h.IsTupleIter u1 a i /\ h.IsTupleIter u2 b i) where
 mem := by simp
 obj := fun i h st q hq => by
  obtain ⟨g1, g2, ⟨c, d, g3⟩, ⟨o4, g4, _, d4⟩, ⟨o5, g5, _, d5⟩⟩ := st
  simp only [List.mem_cons, List.not_mem_nil, or_false] at hq
  rcases hq with rfl | rfl | rfl | rfl | rfl
  ·exact ⟨_, g1, fun v e => nomatch e⟩
  ·exact ⟨_, g2, fun v e => nomatch e⟩
  ·exact ⟨_, g3, fun v e => nomatch e⟩
  ·exact ⟨_, g4, fun v e => by rw [d4] at e; cases e⟩
  ·exact ⟨_, g5, fun v e => by rw [d5] at e; cases e⟩
 keep := fun i h h' st k => by
  obtain ⟨g1, g2, ⟨c, d, g3⟩, ⟨o4, g4, r4⟩, ⟨o5, g5, r5⟩⟩ := st
  exact ⟨k z (by simp) _ g1, k ti (by simp) _ g2, ⟨c, d, k to' (by simp) _ g3⟩, ⟨o4, k u1 (by simp) _ g4, r4⟩, ⟨o5, k u2 (by simp) _ g5, r5⟩⟩
 item := by
  intro X hP hw hK hc i pins s σ H E I hf st hg
  subst hP hw hK
  obtain ⟨xs, ys, x, y, ha, hb, hx, hy⟩ := hg
  obtain ⟨g1, g2, ⟨c, d, g3⟩, g4, g5⟩ := st
  obtain ⟨its, rv, p, hz⟩ := I.tuple ha
  obtain ⟨jts, rw', p', hz'⟩ := I.tuple hb
  obtain ⟨u, hu, ru⟩ := rv.get hx
  obtain ⟨v, hv, rv'⟩ := rw'.get hy
  have hT : s.TypeIs (.ref z) "zip" := ⟨_, g1, rfl⟩
  unfold pyNext
  refine wpAny_bind (wpAny_attempt (wpAny_callSpecial?_slot (name := Str.ofString "__next__") hT F.slot_zip_next (wpAny_call_entry F.slot_zip_next hT F.entry_zip_next
   (kF0 (x := u) (y := v) D g1 g2 g3 g4 g5 (show s.heap.IsTuple a its.toArray from p) (show s.heap.IsTuple b jts.toArray from p') (by simpa using hu) (by simpa using hv) fun h' a1 a2 a3 a4 a5 a6 a7 => wpAny_pure ⟨_, rfl, ?_⟩) (F.args_zip_next_1 _))))
  refine wpAny_letOwnedTupleGo_zip a1 fun h'' gz sb => ?_
  have hn : H s.heap.objs.size = none := I.hok.fresh (Nat.le_refl _)
  have zlt : z < s.heap.objs.size := Heap.lt_size g1
  have hfp : ∀ q ∈ [z, ti, to', u1, u2], q < s.heap.objs.size := fun q hq => by
   obtain ⟨_, g4', _⟩ := id g4
   obtain ⟨_, g5', _⟩ := id g5
   simp only [List.mem_cons, List.not_mem_nil, or_false] at hq
   rcases hq with rfl | rfl | rfl | rfl | rfl
   ·exact Heap.lt_size g1
   ·exact Heap.lt_size g2
   ·exact Heap.lt_size g3
   ·exact Heap.lt_size g4'
   ·exact Heap.lt_size g5'
  have ht2 : h''.get? s.heap.objs.size = some { cls := .type "tuple", data := .seq #[u, v] } := sb.extBut _ _ (Nat.ne_of_gt zlt) a5
  have I2 : Inv X pins σ (upd H s.heap.objs.size (.tup [x, y])) { s with heap := h'' } := by
   refine I.turnedLaid (t' := s.toks) (it := [z, ti, to', u1, u2]) (fun q o hq e => ?_) (fun q hq => ?_) (Nat.le_refl _) ?_
   ·simp only [List.mem_cons, List.not_mem_nil, or_false, not_or] at hq
    exact sb.extBut _ _ hq.1 (a7 q o hq.1 hq.2.2.1 hq.2.2.2.1 hq.2.2.2.2 e)
   ·obtain ⟨f0, f1, f2, f3, f4, f5⟩ := hf q hq
    exact ⟨f0, f1, f3, f4, f5⟩
   ·exact ⟨by simp only [List.length_cons, List.length_nil]; rw [sizeLine_eq]; decide, [u, v], .cons ru (.cons rv' .nil), ⟨_, ht2, rfl, 0, rfl⟩, _, ht2, rfl⟩
  have at1 : ∀ {h h' : Heap} {u l : Addr} {i : Nat}, h.IsTupleIter u l i -> (∀ o, h.get? u = some o -> h'.get? u = some o) -> h'.IsTupleIter u l i := fun ⟨o, e, r⟩ f => ⟨o, f o e, r⟩
  refine ⟨.ref s.heap.objs.size, _, I2, rfl, ⟨_, hn, rfl, fun xs' ys' q1 q2 => ?_⟩, ⟨gz, sb.extBut _ _ D.TIz (a7 _ _ D.TIz D.TITO D.TIi1 D.TIi2 g2), ⟨_, _, sb.extBut _ _ D.TOz a2⟩, at1 a3 fun o g => sb.extBut _ _ D.i1z g, at1 a4 fun o g => sb.extBut _ _ D.i2z g⟩, fun q hq => ?_⟩
  ·rw [I.tuple_inj q1 ha, I.tuple_inj q2 hb]
   exact ⟨x, y, hx, hy, rfl⟩
  ·rw [an0 (Nat.ne_of_lt (hfp q hq))]
   exact (hf q hq).1
 done := by
  intro X hP hw hK hc i pins s σ H E I hf st hg
  subst hP hw hK
  obtain ⟨xs, ys, ha, hb, he⟩ := hg
  obtain ⟨g1, g2, ⟨c, d, g3⟩, g4, g5⟩ := st
  obtain ⟨its, rv, p, hz⟩ := I.tuple ha
  obtain ⟨jts, rw', p', hz'⟩ := I.tuple hb
  have l1 := rv.length
  have l2 := rw'.length
  have hT : s.TypeIs (.ref z) "zip" := ⟨_, g1, rfl⟩
  unfold pyNext
  refine wpAny_bind (wpAny_attempt (wpAny_callSpecial?_slot (name := Str.ofString "__next__") hT F.slot_zip_next (wpAny_call_entry F.slot_zip_next hT F.entry_zip_next
   (ma0 (xs := its.toArray) (ys := jts.toArray) (I.ok.hd hc) D g1 g2 g3 g4 g5 p p' (he.imp (fun q => by simp; omega) fun q => by simp; omega) fun h' e hk ge => ?_) (F.args_zip_next_1 _))))
  obtain ⟨o, ho, hc'⟩ := ge
  refine wpAny_bind (wpAny_isInstance (T := "StopIteration") (b := true) ⟨o, ho, hc'⟩ isSubtype_stop (wpAny_pure ⟨rfl, ?_⟩))
  have nit : ∀ q u, H q = some u -> q ∉ [z, ti, to', u1, u2] := fun q u e zz => by rw [(hf q zz).1] at e; cases e
  have kk : ∀ q o, q ∉ [z, ti, to', u1, u2] -> s.heap.get? q = some o -> h'.get? q = some o := fun q o hq e => by
   simp only [List.mem_cons, List.not_mem_nil, or_false, not_or] at hq
   exact hk q o hq.1 hq.2.2.1 hq.2.2.2.1 hq.2.2.2.2 e
  refine I.step (g' := s.gens) (d' := s.drawn) (t' := s.toks) (ch := [z, ti, to', u1, u2]) (fun q hq => ?_) (fun q o _ _ hc e _ => ?_) (fun q o _ _ hc e _ => ⟨o.slots, ?_⟩) (fun q o hc e n => n) (fun q o hc e => ⟨o, ?_⟩) (fun _ _ e => e) (fun _ _ _ e => e) (fun q ps e => ⟨#[], by rw [e]; simp⟩) (fun m hm => ?_) (fun q u e => ?_) I.bare
  ·obtain ⟨f0, f1, f2, f3, f4, f5⟩ := hf q hq
   exact ⟨f3, f1, f4, f5⟩
  ·exact kk q o hc e
  ·exact kk q o hc e
  ·exact kk q o hc e
  ·obtain ⟨o, es, ep, ho, r⟩ := hm
   exact ⟨o, es, ep, kk _ o (fun zz => (hf _ zz).2.1 rfl) ho, r⟩
  ·refine (I.hok q u e).stay (fun c v hc g => kk c v ?_ g) (fun _ g => g) fun _ _ g => g
   rcases hc with zz | zz
   ·rw [zz]; exact nit q u e
   ·exact nit c _ zz
 self := fun A i s Q E st h => wpAny_pyIter_zip st.1 h
section
variable {X : Cx}
def iZip (K : PySem.W.Frag) (ta : TA) : TI := fun σ H R => ta σ H fun vs H1 => ∃ a b xs ys, vs = [.ref a, .ref b] /\ SqT K H1 a xs /\ SqT K H1 b ys /\ R (Itz K a b) H1
theorem ov0 {a b : Expr} {ta : TA} {elts : List Expr} {x1 : Nat} {tp p pos : Pos} (hg : Gl X "zip") (hm : X.mg "zip" = none) (ha : PA X [a, b] ta) (hv : bootBuiltins "zip" = some (.type "zip") := by rfl) (hs : starEach [a, b] X.env = (false, eval a X.env) :: starEach [b] X.env := by rfl) (hpl : (backTo pos (starEach [b] X.env)).any (·.1) = false := by rfl) :
  PI X (.Tuple elts x1 tp) (.Call (.Name "zip" p) [a, b] [] pos) (iZip X.K ta) := by
 intro pins s σ H R I h
 refine wpAny_Call_Name_kw (ee0 I hg hm hv (PyProof.Rows.callWith_type1 (thn (ha pos pins s σ H _ I h) fun us s1 ⟨vs, H1, I1, r1, q1⟩ => ?_) hs hpl) (by decide) (by decide))
 obtain ⟨c, d, xs, ys, rfl, hc, hd, q⟩ := q1
 obtain ⟨u, v, rfl, ru, rv⟩ := lf0 r1
 cases ru; cases rv
 obtain ⟨its, _, p1, _⟩ := I1.tuple hc
 obtain ⟨jts, _, p2, _⟩ := I1.tuple hd
 obtain ⟨o1, e1, _⟩ := id p1
 obtain ⟨o2, e2, _⟩ := id p2
 have lc : c < s1.heap.objs.size := Heap.lt_size e1
 have ld : d < s1.heap.objs.size := Heap.lt_size e2
 refine kD0 p1 p2 fun h' g1 g2 g3 g4 g5 sz kk => wpAny_pyIter_zip g1 ?_
 have I2 : Inv X pins σ H1 { s1 with heap := h' } := I1.kept (t' := s1.toks) kk
 have D : ZipApart (s1.heap.objs.size + 4) (s1.heap.objs.size + 2) (s1.heap.objs.size + 3) s1.heap.objs.size (s1.heap.objs.size + 1) c d := by
  have up : ∀ {m n k : Nat}, m < n -> m ≠ n + k := fun h => Nat.ne_of_lt (Nat.lt_add_right _ h)
  have nn : ∀ (n j k : Nat), j ≠ k -> n + j ≠ n + k := fun n j k h q => h (Nat.add_left_cancel q)
  exact ⟨nn _ 2 4 (by decide), nn _ 3 4 (by decide), nn _ 0 4 (by decide), nn _ 1 4 (by decide), nn _ 2 3 (by decide), nn _ 2 0 (by decide), nn _ 2 1 (by decide), nn _ 3 0 (by decide), nn _ 3 1 (by decide), nn _ 0 1 (by decide),
   up (k := 4) lc, up (k := 3) lc, up (k := 0) lc, up (k := 1) lc, up (k := 4) ld, up (k := 3) ld, up (k := 0) ld, up (k := 1) ld⟩
 refine ⟨_, [_, _, _, _, _], _, _, H1, rfl, I2, me0 D, ⟨g1, g2, ⟨_, _, g3⟩, g4, g5⟩, fun q hq => ?_, q⟩
 simp only [List.mem_cons, List.not_mem_nil, or_false] at hq
 rcases hq with rfl | rfl | rfl | rfl | rfl <;> exact I1.fpOk (by first | exact Nat.le_refl _ | exact Nat.le_add_right _ _) (I1.hok.fresh (by first | exact Nat.le_refl _ | exact Nat.le_add_right _ _))
end
end L2
namespace L2.BD
open PySem PySem.Spec PyProof.Rows
section
variable {X : Cx} {Y : Fx} {a b : Expr} {fa : En -> Option (List T)}
def zipT : List T -> List T -> List T
 | x :: xs, y :: ys => .tup [x, y] :: zipT xs ys
 | _, _ => []
theorem ht0 : ∀ {xs ys : List T} {i : Nat} {t : T}, (zipT xs ys)[i]? = some t -> ∃ x y, xs[i]? = some x /\ ys[i]? = some y /\ t = .tup [x, y]
 | [], _, _, _, e => by simp [zipT] at e
 | _ :: _, [], _, _, e => by simp [zipT] at e
 | x :: xs, y :: ys, 0, t, e => by simp [zipT] at e; exact ⟨x, y, rfl, rfl, e.symm⟩
 | x :: xs, y :: ys, i + 1, t, e => by
  obtain ⟨u, v, h1, h2, h3⟩ := ht0 (xs := xs) (ys := ys) (i := i) (t := t) (by simpa [zipT] using e)
  exact ⟨u, v, by simpa using h1, by simpa using h2, h3⟩
theorem gY0 : ∀ (xs ys : List T), xs.length <= (zipT xs ys).length \/ ys.length <= (zipT xs ys).length
 | [], _ => .inl (Nat.zero_le _)
 | _ :: _, [] => .inr (Nat.zero_le _)
 | x :: xs, y :: ys => (gY0 xs ys).imp Nat.succ_le_succ Nat.succ_le_succ
def hS0 (g : En -> Option (List T)) : En -> Option (List T) := fun ε => match g ε with | some [.tup xs, .tup ys] => some (zipT xs ys) | _ => none
theorem mA0 {elts : List Expr} {x1 : Nat} {tp p pos : Pos} (hg : Gl X "zip") (hm : X.mg "zip" = none) (ha : BA X Y [a, b] fa) (hv : bootBuiltins "zip" = some (.type "zip") := by rfl) (hs : starEach [a, b] X.env = (false, eval a X.env) :: starEach [b] X.env := by rfl) (hpl : (backTo pos (starEach [b] X.env)).any (·.1) = false := by rfl) :
  SI X Y (.Tuple elts x1 tp) (.Call (.Name "zip" p) [a, b] [] pos) (hS0 fa) := PI.imp (ov0 hg hm ha hv hs hpl) fun σ H R ⟨F, ε, ts, r, hf, k⟩ => by
 unfold hS0 at hf
 split at hf
 ·rename_i ts us qf
  cases hf
  refine ⟨F, ε, _, r, qf, fun F1 vs H1 m1 r1 => ?_⟩
  obtain ⟨x, y, rfl, rx, ry⟩ := Rbs.two r1
  obtain ⟨c, xs, rfl, hc, rxs⟩ := rx.tup_
  obtain ⟨d, ys, rfl, hd, rys⟩ := ry.tup_
  refine ⟨c, d, xs, ys, rfl, SqT.of hc, SqT.of hd, k F1 H1 _ m1 fun i F2 H2 kp tk => ?_⟩
  have sc : SqT X.K H2 c xs := SqT.of (kp.tup c _ hc)
  have sd : SqT X.K H2 d ys := SqT.of (kp.tup d _ hd)
  refine ⟨fun t e => ?_, fun e => ⟨xs, ys, sc, sd, by rw [rxs.length, rys.length, e]; exact gY0 _ _⟩⟩
  obtain ⟨u, v, h1, h2, rfl⟩ := ht0 e
  obtain ⟨x, hx, rx⟩ := rxs.get h1
  obtain ⟨y, hy, ry⟩ := rys.get h2
  refine ⟨⟨xs, ys, x, y, sc, sd, hx, hy⟩, fun w H' ⟨pp, hp, e1, e2⟩ => ?_⟩
  obtain ⟨x', y', q1, q2, q3⟩ := e2 xs ys sc sd
  rw [hx] at q1; cases q1
  rw [hy] at q2; cases q2
  subst e1 q3
  have ml := Mono.laid (o := .tup [x, y]) tk hp
  exact ⟨F2, ml, .tup aq0 (.cons ((rx.keep kp).keep ml.keep) (.cons ((ry.keep kp).keep ml.keep) .nil))⟩
 ·cases hf
end
end L2.BD
set_option Elab.async false
set_option linter.all false
set_option maxRecDepth 100000
set_option maxHeartbeats 4000000
namespace L2
open PySem PySem.Spec PyProof.Rows
theorem mD0 {α β : Type} [DecidableEq α] [DecidableEq β] : @LawfulBEq (Sum α β) instBEqOfDecidableEq := inferInstance
instance memKey (k : Key) (l : List Key) : Decidable (k ∈ l) := decidable_of_iff (l.any (fun x => decide (x = k)) = true) (by simp)
def metK : List Key -> List Key
 | ks => ks.foldl (fun acc k => if k ∈ acc then acc else acc ++ [k]) []
theorem fe0 (ks : List Key) (k : Key) : metK (ks ++ [k]) = if k ∈ metK ks then metK ks else metK ks ++ [k] := by
 unfold metK
 rw [List.foldl_append]
 rfl
theorem np0 (ks : List Key) : (metK ks).length <= ks.length := by
 have gen : ∀ (ks acc : List Key), (ks.foldl (fun acc k => if k ∈ acc then acc else acc ++ [k]) acc).length <= acc.length + ks.length := by
  intro ks
  induction ks with
  | nil => intro acc; simp
  | cons k ks ih =>
   intro acc
   rw [List.foldl_cons]
   refine Nat.le_trans (ih _) ?_
   split
   ·simp
   ·simp; omega
 have := gen ks []
 simp only [List.length_nil, Nat.zero_add] at this
 exact this
section
variable {prog : Program} {w : World} {A : Around} {E : Value -> Shared -> Prop} {s : Shared}
theorem eA0 {h : Heap} {a : Addr} {S S' : Key -> Bool} {n n' : Nat} (g : h.SetOf (aH0 prog w) a S n) (e : S = S') (en : n = n') : h.SetOf (aH0 prog w) a S' n' := by
 subst e en; exact g
theorem gA0 {h h' : Heap} {a : Addr} {S : Key -> Bool} {n : Nat} (g : h.SetOf (aH0 prog w) a S n) (f : ∀ o, h.get? a = some o -> h'.get? a = some o) : h'.SetOf (aH0 prog w) a S n := by
 obtain ⟨o, es, ep, tb, ho, r⟩ := g
 exact ⟨o, es, ep, tb, f o ho, r⟩
theorem nO0 {k : Key} {v : Value} (h : (aH0 prog w).is k v = true) : v.scannable = true := by
 rcases aU0 (k := k) (v := v) h with ⟨i, t, rfl, rfl⟩ | ⟨x, t, rfl, rfl⟩ <;> rfl
theorem lu0 {R : Result -> Shared -> Prop} {u l : Addr} {its : Array Value} {ks : List Key} (hh : A.in1.handled = none) (hne : l ≠ u) (S : Addr) (nu : S ≠ u) (nl : S ≠ l) (hks : ks.length = its.size) (hk : ∀ (i : Nat) v k, its[i]? = some v -> ks[i]? = some k -> (aH0 prog w).is k v = true) (hb : its.size + 1 < scanBound) :
  ∀ (m i : Nat) (s : Shared), its.size - i = m -> i <= its.size -> s.heap.IsListIter u l i -> s.heap.IsList l its -> s.heap.SetOf (aH0 prog w) S (fun k => decide (k ∈ metK (ks.take i))) (metK (ks.take i)).length ->
   (∀ h' t', h'.SetOf (aH0 prog w) S (fun k => decide (k ∈ metK ks)) (metK ks).length -> (∀ b o, b ≠ S -> b ≠ u -> s.heap.get? b = some o -> h'.get? b = some o) -> R (.ok (.ret .none)) { s with heap := h', toks := t' }) ->
   codeAny (model prog w) A (.builtin "set.update.loop" ⟨[.ref S, .ref u], []⟩) R s := by
 intro m
 induction m with
 | zero =>
  intro i s hm hi gu gl gs k
  have e : i = its.size := by omega
  subst e
  refine codeAny_builtin F.entry_set_update_loop ?_; rw [Around.under_plainId F.plain_set_update_loop _]
  show wpAny _ A.in1 (pyNext (.ref u) >>= _) _ _ s; refine wpAny_bind (wpAny_pyNext_list_end hh gu gl (by simp) fun h' eb => ?_)
  show wpAny _ A.in1 (ret Value.none) _ _ _; refine wpAny_pure ?_
  rw [<- hks, List.take_length] at gs
  exact k h' s.toks (gA0 gs fun o g => eb _ o nu g) fun b o n1 n2 g => eb b o n2 g
 | succ m ih =>
  intro i s hm hi gu gl gs k
  have hlt : i < its.size := by omega
  have hlk : i < ks.length := by omega
  have kv := hk i its[i] ks[i] (Array.getElem?_eq_getElem hlt) (List.getElem?_eq_getElem hlk)
  refine codeAny_builtin F.entry_set_update_loop ?_; rw [Around.under_plainId F.plain_set_update_loop _]
  show wpAny _ A.in1 (pyNext (.ref u) >>= _) _ _ s; refine wpAny_bind (wpAny_pyNext_list_item gu gl (Array.getElem?_eq_getElem hlt) fun h1 gu1 sb1 => ?_)
  have gs1 := gA0 gs fun o g => (sb1.2 S nu).trans g
  show wpAny _ A.in1 (holding [its[i]] (setAdd S its[i]) >>= _) _ _ _; refine wpAny_bind (wpAny_holding ?_); unfold setAdd; refine wpAny_holding (wpAny_bind ((aH0 prog w).pyHash kv ?_))
  have room : (metK (ks.take i)).length + 1 < scanBound := by have := np0 (ks.take i); rw [List.length_take] at this; omega
  refine wpAny_setAddHashed_of (knd := aH0 prog w) (s := { s with heap := h1, toks := s.toks + 1 }) kv (nO0 kv) gs1 room fun h2 sb2 gs2 => ?_
  have et : ks.take (i + 1) = ks.take i ++ [ks[i]] := by rw [List.take_add_one, List.getElem?_eq_getElem hlk]; rfl
  have gs3 : h2.SetOf (aH0 prog w) S (fun k => decide (k ∈ metK (ks.take (i + 1)))) (metK (ks.take (i + 1))).length := by
   refine eA0 gs2 (funext fun q => ?_) ?_
   ·rw [et, fe0]
    by_cases z : ks[i] ∈ metK (ks.take i)
    ·rw [if_pos z]
     by_cases y : q = ks[i]
     ·subst y; simp [z]
     ·simp [y]
    ·rw [if_neg z]
     simp [List.mem_append, Bool.decide_or]
   ·rw [et, fe0]
    by_cases z : ks[i] ∈ metK (ks.take i)
    ·simp [z]
    ·simp [z]
  have at1 : ∀ {h h' : Heap}, h.IsListIter u l (i + 1) -> (∀ o, h.get? u = some o -> h'.get? u = some o) -> h'.IsListIter u l (i + 1) := fun ⟨o, e, r⟩ f => ⟨o, f o e, r⟩
  refine wpAny_pure ⟨plainId_quiet F.plain_set_update_loop _, ih (i + 1) _ (by omega) hlt (at1 gu1 fun o g => (sb2.2 u (Ne.symm nu)).trans g) ((gl.extBut sb1.extBut hne).extBut sb2.extBut (Ne.symm nl)) gs3 fun h3 t3 g3 kk => ?_⟩
  exact k h3 t3 g3 fun b o n1 n2 g => kk b o n1 n2 ((sb2.2 b n1).trans ((sb1.2 b n2).trans g))
theorem kt0 {l : Addr} {its : Array Value} {ks : List Key} {Q : Value -> Shared -> Prop} (hh : A.handled = none) (gl : s.heap.IsList l its) (hks : ks.length = its.size) (hk : ∀ (i : Nat) v k, its[i]? = some v -> ks[i]? = some k -> (aH0 prog w).is k v = true) (hb : its.size + 1 < scanBound)
  (k : ∀ h' t', h'.SetOf (aH0 prog w) s.heap.objs.size (fun k => decide (k ∈ metK ks)) (metK ks).length -> (∀ b o, b < s.heap.objs.size -> s.heap.get? b = some o -> h'.get? b = some o) -> Q (.ref s.heap.objs.size) { s with heap := h', toks := t' }) :
  wpAny (model prog w) A (call (.type "set") [.ref l]) Q E s := by
 obtain ⟨c, tl, mro⟩ := F.called_set.mro
 have made := F.called_set.made
 have sub := F.called_set.sub
 refine wpAny_call (codeAny_of_tree ?_); show wpAny _ _ (callAny (.type "set") _) _ _ _
 refine wpAny_pure ⟨Code.quiet_builtin _ (by decide +kernel), codeAny_builtin F.entry_type_call ?_⟩; rw [Around.under_plain (weight_type_call_type "set" [.ref l] []) rfl]
 have n1 := F.called_set.notType
 have n2 := F.called_set.canCreate
 have n3 := F.typeCall_set_1 (.ref l)
 (repeat (any_goals (first | assumption | wp_step)))
 refine codeAny_mono (code_set_new_1 (.ref l) (E := E) (Q₁ := fun obj s₁ => ∃ led : Bool, obj = .ref s.heap.objs.size /\ s₁ = { s with heap := s.heap.push { cls := .type "set", dict := none, data := .set #[] 0 (.fresh 0 0 led) } }) fun led => ⟨led, rfl, rfl⟩) fun r s1 hr => ?_
 cases r with
 | error e => exact hr
 | ok fl =>
  cases fl with
  | ret obj =>
   obtain ⟨led, rfl, rfl⟩ := hr
   have gS : (s.heap.push { cls := .type "set", dict := none, data := .set #[] 0 (.fresh 0 0 led) }).get? s.heap.objs.size = some { cls := .type "set", dict := none, data := .set #[] 0 (.fresh 0 0 led) } := Heap.get?_push_size _ rfl
   have gT : Shared.TypeIs { s with heap := s.heap.push { cls := .type "set", dict := none, data := .set #[] 0 (.fresh 0 0 led) } } (.ref s.heap.objs.size) "set" := ⟨_, gS, rfl⟩
   have il := F.called_set.init.lookup
   have ib := F.called_set.init.bind (.ref s.heap.objs.size)
   (repeat (any_goals (first | assumption | wp_step)))
   refine codeAny_mono (codeAny_call_builtin (R := wants (fun r s₂ => r = .none /\ ∃ h' tk, s₂ = { s with heap := h', toks := tk } /\ h'.SetOf (aH0 prog w) s.heap.objs.size (fun k => decide (k ∈ metK ks)) (metK ks).length /\
     (∀ b o, b < s.heap.objs.size -> s.heap.get? b = some o -> h'.get? b = some o)) E) F.called_set.init.plain F.entry_set_init (check_set_init_1 gT ?_)) fun r₂ s₂ hr₂ => ?_
   ·obtain ⟨⟨oc, od, ob, os⟩, go, cl, nl, dl⟩ := id gl
    simp only at cl dl
    subst cl; subst dl
    have go' : (s.heap.push { cls := .type "set", dict := none, data := .set #[] 0 (.fresh 0 0 led) }).get? l = some { cls := .type "list", dict := od, data := .seq its nl, slots := os } := Heap.get?_push_of_some _ go
    have m1 := F.sub_list_set
    have m2 := F.sub_list_frozenset
    have m3 : (Value.type "list" == Value.type "dict") = false := by decide
    have gl1 : (s.heap.push { cls := .type "set", dict := none, data := .set #[] 0 (.fresh 0 0 led) }).IsList l its := ⟨_, go', rfl, nl, rfl⟩
    unfold Builtin.«set.__init__» noKeywords Builtin.Frozenset.updateFrom
    generalize hPI : pyIter = PI
    (wp_walk; subst hPI)
    refine wpAny_pyIter_list gl1 (wpAny_bind (wpAny_runValue ?_))
    have ll : l < s.heap.objs.size := Heap.lt_size go
    have h3 : A.in1.in1.in1.handled = none := by simp [hh]
    refine lu0 (its := its) (ks := ks) (l := l) h3 (by rw [Heap.size_push]; exact Nat.ne_of_lt (Nat.lt_succ_of_lt ll)) s.heap.objs.size (by rw [Heap.size_push]; exact Nat.ne_of_lt (Nat.lt_succ_self _)) (Nat.ne_of_gt ll) hks hk hb (its.size - 0) 0 _ (by omega) (Nat.zero_le _) ⟨_, Heap.get?_push_size _ rfl, rfl, rfl⟩ (gl1.push _) ?_ fun h' t' g' kk => ?_
    ·exact eA0 (@Obj.SetObjOf.setOf _ _ _ _ instBEqOfDecidableEq mD0 _ _ _ _ _ _ (@PyProof.Rows.setObjOf_fresh prog w Key _ instBEqOfDecidableEq mD0 (aH0 prog w) led) (Heap.get?_push_of_some _ gS) (by unfold scanBound; omega)) (funext fun q => by exact (decide_eq_false (by rw [List.take_zero]; exact List.not_mem_nil)).symm) rfl
    ·show wpAny _ _ _ _ _ _; refine wpAny_pure ?_; show wpAny _ _ (ret Value.none) _ _ _
     refine wpAny_pure ⟨rfl, h', t', rfl, g', fun b o hb e => ?_⟩
     exact kk b o (Nat.ne_of_lt hb) (by rw [Heap.size_push]; exact Nat.ne_of_lt (Nat.lt_succ_of_lt hb)) (Heap.get?_push_of_some _ (Heap.get?_push_of_some _ e))
   ·cases r₂ with
    | error e => exact hr₂
    | ok fl₂ =>
     cases fl₂ with
     | ret r =>
      obtain ⟨rfl, h', tk, rfl, gS', kk⟩ := hr₂
      (repeat (any_goals (first | assumption | wp_step)))
      exact k _ _ gS' kk
     | _ => exact hr₂.elim
  | _ => exact hr.elim
end
section
variable {X : Cx} {e : Expr} {p p2 pos pos2 : Pos}
theorem kC0 {te : TE} (hc : X.calm = true) (hgl : Gl X "len") (hml : X.mg "len" = none) (hgs : Gl X "set") (hms : X.mg "set" = none) (he : PE X e te) (hv : bootBuiltins "len" = some (.builtin "len") := by rfl) (hv2 : bootBuiltins "set" = some (.type "set") := by rfl)
  (hs : starEach [.Call (.Name "set" p2) [e] [] pos2] X.env = [(false, eval (.Call (.Name "set" p2) [e] [] pos2) X.env)] := by rfl) (hs2 : starEach [e] X.env = [(false, eval e X.env)] := by rfl) :
  PE X (.Call (.Name "len" p) [.Call (.Name "set" p2) [e] [] pos2] [] pos) (fun σ H Q => te σ H fun x H1 => ∃ a ks, x = .ref a /\ SqL X.K H1 a (ks.map kV) /\ ks.length + 1 < scanBound /\ Q (.int ((metK ks).length : Int)) H1) := by
 intro pins s σ H Q I h
 refine wpAny_Call_Name_kw (ee0 I hgl hml hv ?_ (by decide) (by decide))
 refine PyProof.Rows.callWith_builtin1 ?_ hs rfl
 rw [hs]
 show wpAny _ _ (spliced [(false, _)]) _ _ s
 refine Calls.spliced_cons ?_
 refine wpAny_Call_Name_kw (ee0 I hgs hms hv2 ?_ (by decide) (by decide))
 refine PyProof.Rows.callWith_type1 ?_ hs2 rfl
 rw [hs2]
 show wpAny _ _ (spliced [(false, _)]) _ _ s
 refine Calls.spliced_cons (thn (he pins s σ H _ I h) fun u s1 ⟨x, H1, I1, r1, a, ks, ev, ha, hb, q⟩ => Calls.spliced_nil ?_)
 subst ev
 cases r1
 obtain ⟨its, rv, pl, _⟩ := I1.list ha
 have hl : ks.length = its.toArray.size := by rw [List.size_toArray, <- rv.length, List.length_map]
 refine kt0 (ks := ks) (I1.ok.hd hc) pl.isList hl (fun i v k g1 g2 => ?_) (by rw [<- hl]; exact hb) fun h' t' gS kk => ?_
 ·obtain ⟨u, h1, h2⟩ := rv.get (i := i) (x := kV k) (by rw [List.getElem?_map, g2]; rfl)
  have : its[i]? = some v := by simpa using g1
  rw [this] at h1
  cases h1
  exact lk0 h2
 ·have I2 : Inv X pins σ H1 { s1 with heap := h', toks := t' } := I1.kept fun b o g => kk b o (Heap.lt_size g) g
  refine Calls.spliced_nil ?_
  obtain ⟨o, es, ep, tb, ho, hex, hd, _, _, hbd, hf, hn⟩ := gS
  refine call_len_set ho hex hd hf (by unfold scanBound at hbd; omega) ⟨.int _, H1, (I2.tok _), ⟨_, rfl⟩, ?_⟩
  rw [hn]
  exact q
end
end L2
set_option Elab.async false
set_option linter.all false
set_option maxRecDepth 100000
set_option maxHeartbeats 4000000
namespace L2
open PySem PySem.Spec PyProof.Rows
def maxI : Int -> List Int -> Int
 | m, [] => m
 | m, x :: xs => maxI (if x > m then x else m) xs
theorem fi0 (bt : Nat -> Nat -> Bool) (k : Nat) : argBest bt (k + 1) = if bt (k + 1) (argBest bt k) then k + 1 else argBest bt k := rfl
theorem fw0 : ∀ (xs : List Int) (m y : Int), maxI m (xs ++ [y]) = if y > maxI m xs then y else maxI m xs
 | [], m, y => rfl
 | x :: xs, m, y => by
  show maxI _ (xs ++ [y]) = _
  rw [fw0 xs]
  rfl
theorem ec0 (n : Int) (ns : List Int) (bt : Nat -> Nat -> Bool) (hb : ∀ i j x y, (n :: ns)[i]? = some x -> (n :: ns)[j]? = some y -> bt i j = decide (x > y)) : ∀ k, k <= ns.length -> (n :: ns)[argBest bt k]? = some (maxI n (ns.take k))
 | 0, _ => rfl
 | k + 1, h => by
  have ih := ec0 n ns bt hb k (by omega)
  have hk : k < ns.length := by omega
  have e1 : (n :: ns)[k + 1]? = some ns[k] := by rw [List.getElem?_cons_succ]; exact List.getElem?_eq_getElem hk
  have et : ns.take (k + 1) = ns.take k ++ [ns[k]] := by rw [List.take_add_one, List.getElem?_eq_getElem hk]; rfl
  rw [fi0, hb _ _ _ _ e1 ih, et, fw0]
  by_cases c : ns[k] > maxI n (ns.take k)
  ·rw [decide_eq_true c, if_pos rfl, if_pos c]; exact e1
  ·rw [decide_eq_false c, if_neg Bool.false_ne_true, if_neg c]; exact ih
section
variable {X : Cx}
theorem kE0 {ns : List Int} {its : List Value} (rv : Vals (ns.map V.int) its) {i : Nat} {v : Value} (h : its.toArray[i]? = some v) : ∃ m t, ns[i]? = some m /\ v = .int m t := by
 have h : its[i]? = some v := by simpa using h
 have hi : i < its.length := (List.getElem?_eq_some_iff.mp h).1
 have hn : i < ns.length := by have := rv.length; rw [List.length_map] at this; omega
 obtain ⟨u, h1, h2⟩ := rv.get (i := i) (x := V.int ns[i]) (by rw [List.getElem?_map, List.getElem?_eq_getElem hn]; rfl)
 rw [h] at h1
 cases h1
 obtain ⟨t, rfl⟩ := h2
 exact ⟨_, t, List.getElem?_eq_getElem hn, rfl⟩
theorem jy0 (hc : X.calm = true) : di0 X (.builtin "max") (fun xs H Q => ∃ (a : Addr) (n : Int) (ns : List Int), xs = [.ref a] /\ (SqL X.K H a ((n :: ns).map V.int) \/ SqT X.K H a ((n :: ns).map V.int)) /\ Q (.int (maxI n ns)) H) := by
 intro pins s σ H xs us Q I r h
 obtain ⟨a, n, ns, rfl, ha, q⟩ := h
 obtain ⟨u, rfl, ru⟩ := hO0 r
 cases ru
 have hh : X.A.in1.handled = none := by simp [I.ok.hd hc]
 have cmp : ∀ {its : List Value}, Vals ((n :: ns).map V.int) its -> CmpOf X.prog X.w X.A.in1 CmpOp.Gt (fun i v => its.toArray[i]? = some v) (fun i j => decide ((n :: ns).getD i 0 > (n :: ns).getD j 0)) := by
  intro its rv i j vi vj s Q E h1 h2 q
  obtain ⟨x, t, e1, rfl⟩ := kE0 rv h1
  obtain ⟨y, t', e2, rfl⟩ := kE0 rv h2
  refine gt_int ?_
  have q : Q (.bool (decide ((n :: ns).getD i 0 > (n :: ns).getD j 0))) s := q
  rw [List.getD_eq_getElem?_getD, List.getD_eq_getElem?_getD, e1, e2] at q
  exact q
 have bt : ∀ i j x y, (n :: ns)[i]? = some x -> (n :: ns)[j]? = some y -> (fun i j => decide ((n :: ns).getD i 0 > (n :: ns).getD j 0)) i j = decide (x > y) := fun i j x y e1 e2 => by
  show decide ((n :: ns).getD i 0 > (n :: ns).getD j 0) = _
  rw [List.getD_eq_getElem?_getD, List.getD_eq_getElem?_getD, e1, e2]; rfl
 have fin : ∀ {its : List Value} {v : Value}, Vals ((n :: ns).map V.int) its -> its.toArray[argBest (fun i j => decide ((n :: ns).getD i 0 > (n :: ns).getD j 0)) (its.toArray.size - 1)]? = some v -> RelV (V.int (maxI n ns)) v := fun {its v} rv g => by
  have el : its.toArray.size - 1 = ns.length := by have := rv.length; simp at this; rw [List.size_toArray, <- this]; omega
  rw [el] at g
  obtain ⟨m, t, e, rfl⟩ := kE0 rv g
  rw [ec0 n ns _ bt _ (Nat.le_refl _), List.take_length] at e
  cases e
  exact ⟨t, rfl⟩
 have pos : ∀ {its : List Value}, Vals ((n :: ns).map V.int) its -> 0 < its.toArray.size := fun {its} rv => by have := rv.length; simp at this; rw [List.size_toArray, <- this]; omega
 rcases ha with ha | ha
 ·obtain ⟨its, rv, pl, _⟩ := I.list ha
  have la : a < s.heap.objs.size := let ⟨o, e, _⟩ := pl.isList; Heap.lt_size e
  refine call_max_walk (wpAny_pyIter_list pl.isList ⟨_, _, _, _, _, _, _, rfl, Walks.list hh s.heap.objs.size a (Nat.ne_of_lt la) its.toArray, ⟨⟨_, Heap.get?_push_size _ rfl, rfl, rfl⟩, pl.isList.push _⟩, fun b hb => ?_, pos rv, cmp rv, fun v h' tk g k => ?_⟩)
  ·rw [Heap.size_push]
   rcases List.mem_cons.mp hb with rfl | hb
   ·exact Nat.lt_succ_self _
   ·rw [List.mem_singleton.mp hb]; exact Nat.lt_succ_of_lt la
  ·exact ⟨.int _, H, I.kept fun b o e => k b o (fun z => by rw [List.mem_singleton.mp z] at e; exact absurd (Heap.lt_size e) (Nat.lt_irrefl _)) (Heap.get?_push_of_some _ e), fin rv g, q⟩
 ·obtain ⟨its, rv, pl, _⟩ := I.tuple ha
  have pl : s.heap.IsTuple a its.toArray := pl
  have la : a < s.heap.objs.size := let ⟨o, e, _⟩ := pl; Heap.lt_size e
  refine call_max_walk (wpAny_pyIter_tuple pl ⟨_, _, _, _, _, _, _, rfl, Walks.tuple hh s.heap.objs.size a (Nat.ne_of_lt la) its.toArray, ⟨⟨_, Heap.get?_push_size _ rfl, rfl, rfl⟩, pl.push _⟩, fun b hb => ?_, pos rv, cmp rv, fun v h' tk g k => ?_⟩)
  ·rw [Heap.size_push]
   rcases List.mem_cons.mp hb with rfl | hb
   ·exact Nat.lt_succ_self _
   ·rw [List.mem_singleton.mp hb]; exact Nat.lt_succ_of_lt la
  ·exact ⟨.int _, H, I.kept fun b o e => k b o (fun z => by rw [List.mem_singleton.mp z] at e; exact absurd (Heap.lt_size e) (Nat.lt_irrefl _)) (Heap.get?_push_of_some _ e), fin rv g, q⟩
end
end L2
namespace L2.BD
open PySem PySem.Spec PyProof.Rows
section
variable {X : Cx} {Y : Fx} {e a b : Expr} {pos p p2 pos2 : Pos} {f : En -> Option T} {fa : En -> Option (List T)}
def maxO : List Int -> Option T
 | n :: ns => some (.int (maxI n ns))
 | [] => none
def φMax : List T -> Option T
 | [.lst ts] => (cU0 ts).bind maxO
 | [.tup ts] => (cU0 ts).bind maxO
 | _ => none
theorem fE0 {ts : List T} {u : T} (h : (cU0 ts).bind maxO = some u) : ∃ n ns, ts = (n :: ns).map T.int /\ u = .int (maxI n ns) := by
 cases q : cU0 ts with
 | none => rw [q] at h; cases h
 | some ms =>
  rw [q] at h
  cases ms with
  | nil => cases h
  | cons n ns => cases h; exact ⟨n, ns, fb0 q, rfl⟩
theorem o_max {K : PySem.W.Frag} : OpN (fun xs H Q => ∃ (a : Addr) (n : Int) (ns : List Int), xs = [.ref a] /\ (SqL K H a ((n :: ns).map V.int) \/ SqT K H a ((n :: ns).map V.int)) /\ Q (.int (maxI n ns)) H) φMax := by
 intro F H xs ts u Q tk r h k
 unfold φMax at h
 split at h
 ·obtain ⟨x, rfl, rx⟩ := Rbs.one r
  obtain ⟨a, ys, rfl, ha, ry⟩ := rx.lst_
  obtain ⟨n, ns, rfl, rfl⟩ := fE0 h
  rw [ry.ints] at ha
  exact ⟨a, n, ns, rfl, .inl (SqL.of ha), k F _ H (.refl tk) (.int _)⟩
 ·obtain ⟨x, rfl, rx⟩ := Rbs.one r
  obtain ⟨a, ys, rfl, ha, ry⟩ := rx.tup_
  obtain ⟨n, ns, rfl, rfl⟩ := fE0 h
  rw [ry.ints] at ha
  exact ⟨a, n, ns, rfl, .inr (SqT.of ha), k F _ H (.refl tk) (.int _)⟩
 ·cases h
theorem mn0 (hc : X.calm = true) (hg : Gl X "max") (hm : X.mg "max" = none) (ha : BA X Y [a] fa) (hv : bootBuiltins "max" = some (.builtin "max") := by rfl) (he : starEach [a] X.env = [(false, eval a X.env)] := by rfl) : SE X Y (.Call (.Name "max" p) [a] [] pos) (ao0 φMax fa) := da0 (jy0 hc) o_max hg hm hv ha (by decide) (by decide) he rfl
def fu0 : List T -> Option (List Str)
 | [] => some []
 | .str i :: ts => (fu0 ts).map (i :: ·)
 | _ => none
theorem kG0 (ns : List Str) : fu0 (ns.map T.str) = some ns := by
 induction ns with
 | nil => rfl
 | cons n ns ih => show (fu0 (ns.map T.str)).map (n :: ·) = _; rw [ih]; rfl
theorem gK0 : ∀ {ts : List T} {ns : List Str}, fu0 ts = some ns -> ts = ns.map T.str
 | [], ns, h => by cases h; rfl
 | .str i :: ts, ns, h => by
  have h : (fu0 ts).map (i :: ·) = some ns := h
  cases q : fu0 ts with
  | none => rw [q] at h; cases h
  | some ms => rw [q] at h; cases h; rw [gK0 q]; rfl
theorem Rps.strs {F : Addr -> Prop} {H : Hp} : ∀ {xs : List V} {ns : List Str}, Rps F H xs (ns.map T.str) -> xs = ns.map V.str
 | _, [], h => by cases h; rfl
 | _, n :: ns, h => by
  cases h with
  | cons h r => cases h; rw [Rps.strs r]; rfl
def dl0 (f : En -> Option T) : En -> Option T := fun ε => match f ε with
 | some (.lst ts) => (fu0 ts).bind fun ns => if ns.length <= 1000 then some (.int (metK (ns.map Sum.inr)).length) else none
 | _ => none
theorem ks0 (hc : X.calm = true) (hgl : Gl X "len") (hml : X.mg "len" = none) (hgs : Gl X "set") (hms : X.mg "set" = none) (he : BE X Y e f)
  (hs : starEach [.Call (.Name "set" p2) [e] [] pos2] X.env = [(false, eval (.Call (.Name "set" p2) [e] [] pos2) X.env)] := by rfl) (hs2 : starEach [e] X.env = [(false, eval e X.env)] := by rfl) :
  SE X Y (.Call (.Name "len" p) [.Call (.Name "set" p2) [e] [] pos2] [] pos) (dl0 f) := PE.imp (kC0 hc hgl hml hgs hms he rfl rfl hs hs2) fun σ H Q ⟨F, ε, u, r, hf, k⟩ => by
 unfold dl0 at hf
 split at hf
 ·rename_i ts qf
  cases q : fu0 ts with
  | none => rw [q] at hf; cases hf
  | some ns =>
   rw [q] at hf
   simp only [Option.bind_some] at hf
   split at hf
   ·rename_i hb
    cases hf
    refine ⟨F, ε, _, r, qf, fun F1 v H1 m1 rv => ?_⟩
    obtain ⟨a, xs, rfl, ha, rs⟩ := rv.lst_
    rw [gK0 q] at rs
    rw [rs.strs] at ha
    refine ⟨a, ns.map Sum.inr, rfl, ?_, ?_, k F1 _ H1 m1 (.int _)⟩
    ·rw [List.map_map]; exact SqL.of ha
    ·rw [List.length_map]; unfold scanBound; omega
   ·cases hf
 ·cases hf
def hW0 (f : Str) (t : T) : List (Str × T) -> List (Str × T)
 | [] => [(f, t)]
 | (g, x) :: r => if g = f then (g, t) :: r else (g, x) :: hW0 f t r
theorem Rpf.put {F : Addr -> Prop} {H : Hp} {n : Str} {v : V} {t : T} (h : Rp F H v t) : ∀ {fs : List (Str × V)} {ts : List (Str × T)}, Rpf F H fs ts -> Rpf F H (putF n v fs) (hW0 n t ts)
 | _, _, .nil => .cons h .nil
 | _, _, .cons (k := k) q r => by
  unfold putF hW0
  by_cases e : k = n
  ·rw [if_pos e, if_pos e]; exact .cons h r
  ·rw [if_neg e, if_neg e]; exact .cons q (Rpf.put h r)
def cg0 (C : Addr) (i : Nat) (n : Str) (f : En -> Option T) : En -> Option Fl := fun ε => match ε[i]? with
 | some (.ow (.ins C' fs)) => if C' = C /\ fs.length < 1000 then (f ε).bind fun t => some (.nx (ε.set i (.ow (.ins C' (hW0 n t fs))))) else none
 | _ => none
theorem cu0 {C : Addr} {i : Nat} {x n : Str} {px apos : Pos} (hx : PE X (.Name x px) (tVar i)) (c : Cls X.K C) (na : NoAttr X.K C n) (he : SE X Y e f) (hs : swapsWith e (some (.Attribute (.Name x px) n apos)) pos.line X.env = pure false := by rfl) :
  SS X Y (.Assign [.Attribute (.Name x px) n apos] e pos) (cg0 C i n f) := PS.imp (pa0 hx he hs) fun D σ H ⟨F, ε, fl, r, hg, k⟩ => by
 unfold cg0 at hg
 split at hg
 ·rename_i C' fs e1
  split at hg
  ·rename_i hc
   obtain ⟨rfl, hl⟩ := hc
   cases q : f ε with
   | none => rw [q] at hg; cases hg
   | some t =>
    rw [q] at hg
    cases hg
    refine ⟨F, ε, t, r, q, fun F1 v H1 m1 rv => ?_⟩
    obtain ⟨a, s1, nf, h0, hr⟩ := (r.mono m1).ow i _ e1
    obtain ⟨dx, xs, ha, rf⟩ := hr.ins_
    refine ⟨_, s1, a, C', dx, xs, rfl, ha, c, na, by rw [rf.length]; exact hl, ?_⟩
    have hne : ∀ ys, H1 a ≠ some (.tup ys) := fun ys z => by rw [ha] at z; cases z
    have kp : Keep F1 H1 F1 (upd H1 a (.ins C' dx (putF n v xs))) := ⟨fun _ h => h, fun b u f q => by rw [an0 (fun (z : b = a) => nf (z ▸ f))]; exact q, fun b ys q => by rw [an0 (fun (z : b = a) => hne ys (z ▸ q))]; exact q⟩
    obtain ⟨r2, k2⟩ := (r.mono m1).write (o := .ins C' dx (putF n v xs)) (t' := .ins C' (hW0 n t fs)) e1 s1 hne (.ins aq0 ((rf.put rv).keep kp)) (fun _ => rfl)
    exact k F1 σ _ (m1.keep.trans k2) r2
  ·cases hg
 ·cases hg
end
def spI (C : Addr) (gs : List T -> Option (List (Str × T))) : Sp := fun vs H Q _ => ∃ (F : Addr -> Prop) (x dx : Addr) (us : List V) (ts : List T) (fts : List (Str × T)), vs = .ref x :: us /\ H x = some (.ins C dx []) /\ ¬ F x /\ Trk F H /\ Rps F H us ts /\ gs ts = some fts /\
 ∀ F' H', (∀ b o, b ≠ x -> H b = some o -> H' b = some o) -> (∀ a, F a -> F' a) -> (∀ a, F' a -> F a \/ H a = none \/ a = x) -> ¬ F' x -> Trk F' H' -> Rp1 F' H' x (.ins C fts) -> Q .non H'
def fV0 (C : Addr) (N : List Str) (ts : List T) : En := .ow (.ins C []) :: ce0 N.tail ts
def retI (C : Addr) : Fl -> Option (List (Str × T))
 | .nx (.ow (.ins C' fs) :: _) => if C' = C then some fs else none
 | _ => none
theorem lZ0 {C dx x : Addr} {n : Str} {N : List Str} {F : Addr -> Prop} {H : Hp} {us : List V} {ts : List T} (tk : Trk F H) (hx : H x = some (.ins C dx [])) (nf : ¬ F x) (r : Rps F H us ts) :
  Rel ⟨fun b => if b = x then none else H b, F, fun a => a = x, fun _ _ => False⟩ F (fV0 C (n :: N) ts) (start (n :: N) (.ref x :: us)) H := by
 have R := dg0 (N := N) tk r
 have es : start (n :: N) (.ref x :: us) = some (.ref x) :: start N us := by
  unfold start
  simp only [List.map_cons, List.length_cons, List.cons_append, Nat.add_sub_add_right]
 rw [es]
 have noO : ∀ (i : Nat) t, (ce0 N ts)[i]? ≠ some (.ow t) := fun i t e => by
  unfold ce0 at e
  by_cases hi : i < ts.length
  ·rw [List.getElem?_append_left (by simpa using hi), List.getElem?_map] at e
   cases q : ts[i]? with
   | none => rw [q] at e; cases e
   | some t' => rw [q] at e; cases e
  ·rw [List.getElem?_append_right (by simpa using hi), List.getElem?_replicate] at e
   split at e <;> cases e
 refine ⟨?_, fun i t e => ?_, fun i t e => ?_, fun i j t u a ne e1 e2 s1 s2 => ?_, fun b o h => ?_, fun _ h => h, fun _ h => .inl h, tk, fun i t a e hi s1 => ?_, fun i v t e => ?_⟩
 ·show (ce0 N ts).length + 1 = _
  rw [List.length_cons, R.len]
 ·cases i with
  | zero => cases e
  | succ i => exact R.sh i t e
 ·cases i with
  | zero => cases e; exact ⟨x, rfl, nf, if_pos rfl, .ins hx .nil⟩
  | succ i => exact absurd e (noO i t)
 ·cases i with
  | zero =>
   cases j with
   | zero => exact ne rfl
   | succ j => exact noO j u e2
  | succ i => exact noO i t e1
 ·have h : (if b = x then none else H b) = some o := h
  by_cases z : b = x
  ·rw [if_pos z] at h; cases h
  ·rw [if_neg z] at h; exact h
 ·cases i with
  | zero => cases s1; rfl
  | succ i => exact absurd e (noO i t)
 ·cases i with
  | zero => cases e
  | succ i => exact R.fx i v t e
section
variable {P : Program} {w : World} {K : PySem.W.Frag} {mg : Str -> Option Value} {base : Heap}
theorem mJ0 {x qual n : Str} {st : Stmt} {f C : Addr} {fd : FuncData} {N ps : List Str} {k : Nat} {gs : List T -> Option (List (Str × T))} (Fn : Fun K x qual st f fd) (S : FnScope (n :: N) ps (af0 st))
  (hlen : ∀ ts r, gs ts = some r -> ts.length + 1 = ps.length)
  (hbody : ∀ (cdv : Value) (A : Around) (outer : List Env) (s : Shared) (H : Hp) (E : XK) (Y : Fx), Room k (A.deeper (envOfC qual (af0 st) s.heap.objs.size f cdv)) ->
   ∃ g, SSs ((cxOf CX0 P w K mg base (n :: N) qual (af0 st) f cdv A outer s H E).nox) Y (bt0 st) g /\ ∀ ts r, gs ts = some r -> (g (fV0 C (n :: N) ts)).bind (retI C) = some r) : FnOk P w K mg base CX0 (k + 1) f fd ps (spI C gs) := by
 refine Fn.ok S (fun vs H Q E h => ?_) fun cdv A outer s H vs Q E hr h => ?_
 ·obtain ⟨F, x, dx, us, ts, fts, rfl, _, _, _, r, e, _⟩ := h
  rw [List.length_cons, r.length]
  exact hlen ts _ e
 ·obtain ⟨F, x, dx, us, ts, fts, rfl, hx, nf, tk, r, e, q⟩ := h
  obtain ⟨g, hg, hv⟩ := hbody cdv A outer s H E ⟨fun b => if b = x then none else H b, F, fun a => a = x, fun _ _ => False⟩ hr
  refine ⟨_, hg, ?_⟩
  have hv := hv ts fts e
  cases qg : g (fV0 C (n :: N) ts) with
  | none => rw [qg] at hv; cases hv
  | some fl =>
   rw [qg] at hv
   have hv : retI C fl = some fts := hv
   refine ⟨F, fV0 C (n :: N) ts, fl, lZ0 tk hx nf r, qg, ?_⟩
   unfold retI at hv
   split at hv
   ·split at hv
    ·rename_i C' fs ε hc
     cases hv
     subst hc
     intro F' σ' H' _ rl
     obtain ⟨a, s1, nf1, h0, hr⟩ := rl.ow 0 _ rfl
     obtain rfl : a = x := rl.me 0 _ a rfl rfl s1
     refine q F' H' (fun b o nb hb => rl.same b o (by show (if b = a then none else H b) = some o; rw [if_neg nb]; exact hb)) rl.sub (fun b hb => ?_) nf1 rl.trk hr
     rcases rl.new b hb with z | z
     ·exact .inl z
     ·have z : (if b = a then none else H b) = none := z
      by_cases nb : b = a
      ·exact .inr (.inr nb)
      ·rw [if_neg nb] at z; exact .inr (.inl z)
    ·cases hv
   ·cases hv
end
section
variable {X : Cx} {Y : Fx} {k : Nat} {f C : Addr} {fd : FuncData} {ps : List Str} {x : Str} {p pos : Pos} {e : Expr} {es : List Expr} {gs : List T -> Option (List (Str × T))} {fa : En -> Option (List T)}
def jB0 (C : Addr) (gs : List T -> Option (List (Str × T))) (g : En -> Option (List T)) : En -> Option T := fun ε => (g ε).bind fun ts => (gs ts).map fun fs => .ins C fs
theorem mT0 (M : Mk X.K C f) (Fn : FnOk X.prog X.w X.K X.mg X.base CX0 k f fd ps (spI C gs)) (hr : Room (k + 1) X.A) (hg : Gl X x) (hm : X.mg x = some (.ref C)) (hb : Binds X.K fd ps []) (ha : SA X Y (e :: es) fa)
  (hdb : (x == ("__debug__" : Str)) = false := by decide) (he : starEach (e :: es) X.env = (false, eval e X.env) :: starEach es X.env := by rfl) (hpl : (backTo pos (starEach es X.env)).any (·.1) = false := by rfl) :
  FE X Y (.Call (.Name x p) (e :: es) [] pos) (jB0 C gs fa) := PE.imp (of0 M Fn hr hg hm hb .nil gt0 ha hdb he hpl) fun σ H Q ⟨F, ε, u, rl, hf, k⟩ => by
 unfold jB0 at hf
 cases q : fa ε with
 | none => rw [q] at hf; cases hf
 | some ts =>
  rw [q] at hf
  simp only [Option.bind_some] at hf
  cases q2 : gs ts with
  | none => rw [q2] at hf; cases hf
  | some fs =>
   rw [q2] at hf
   cases hf
   refine ⟨F, ε, ts, rl, q, fun F1 vs H1 m1 r1 y dy hy hdy ne => ?_⟩
   have ext : ∀ b o, H1 b = some o -> upd (upd H1 dy (.own y)) y (.ins C dy []) b = some o := fun b o h => by rw [an0 (au0 h hy), an0 (au0 h hdy)]; exact h
   have tk2 : Trk F1 (upd (upd H1 dy (.own y)) y (.ins C dy [])) := fun b fb => let ⟨o, h⟩ := m1.trk b fb; ⟨o, ext b o h⟩
   have kp : Keep F1 H1 F1 (upd (upd H1 dy (.own y)) y (.ins C dy [])) := ⟨fun _ h => h, fun b o _ h => ext b o h, fun b xs h => ext b _ h⟩
   refine ⟨F1, y, dy, vs, ts, fs, by rw [List.append_nil], aq0, Trk.new m1.trk hy, tk2, r1.keep kp, q2, fun F2 H2 s2 sb nw nf tk hr => ⟨rfl, ?_⟩⟩
   have m2 : Mono F1 H1 F2 H2 := ⟨fun b o h => s2 b o (au0 h hy) (ext b o h), sb, fun b fb => ?_, tk⟩
   ·exact k F2 y H2 (m1.trans m2) (m1.free hy) nf hr
   ·rcases nw b fb with z | z | z
    ·exact .inl z
    ·refine .inr ?_
     cases w : H1 b with
     | none => rfl
     | some o => rw [ext b o w] at z; cases z
    ·exact absurd fb (z ▸ nf)
end
end L2.BD
set_option Elab.async false
set_option linter.all false
set_option maxRecDepth 100000
set_option maxHeartbeats 4000000
namespace L2.BD
open PySem PySem.Spec PyProof.Rows
section
variable (P : Program) (w : World) (K : PySem.W.Frag) (mg : Str -> Option Value) (base : Heap)
def aK0 (k : Nat) (x : Str) (ps : List Str) (gs : List T -> Option (Bool × T)) : Prop := ∃ f fd, FnOk P w K mg base CX0 k f fd ps (spP gs) /\ mg x = some (.ref f) /\ PySem.W.keepIn K (.ref f) = true /\ Binds K fd ps []
def bL0 (C : Addr) (k : Nat) (x : Str) (ps : List Str) (gs : List T -> Option (Bool × T)) : Prop := ∃ f fd, FnOk P w K mg base CX0 k f fd ps (spP gs) /\ Meth K C x f /\ Binds K fd ps []
def mU0 (C : Addr) (k : Nat) (x : Str) (ps : List Str) (gs : List T -> Option (List (Str × T))) : Prop := ∃ f fd, FnOk P w K mg base CX0 k f fd ps (spI C gs) /\ Mk K C f /\ mg x = some (.ref C) /\ Binds K fd ps []
end
theorem bN0 {X : Cx} {scope : Scope} {own : List Str} (N : List Str) (sc : Scope) (h1 : X.N = N) (h2 : X.env.scope = sc) (h : du0 scope own N sc = true) : du0 scope own X.N X.env.scope = true := by rw [h1, h2]; exact h
theorem bH0 {X : Cx} (N : List Str) (h1 : X.N = N) (h : N.Nodup) : X.N.Nodup := by rw [h1]; exact h
theorem hu20 {A : Around} {k : Nat} (hr : Room k A) : A.units + 20 < cLine := Nat.lt_of_le_of_lt (Nat.add_le_add_left (by decide : 20 <= 64) _) hr.units
def fnT (N : List Str) (n : Nat) (g : En -> Option Fl) : List T -> Option (Bool × T) := fun ts => if ts.length = n then (g (ce0 N ts)).bind ct0 else none
def fnI (C : Addr) (N : List Str) (n : Nat) (g : En -> Option Fl) : List T -> Option (List (Str × T)) := fun ts => if ts.length + 1 = n then (g (fV0 C N ts)).bind (retI C) else none
theorem ay0 {N : List Str} {n : Nat} {g : En -> Option Fl} {ts : List T} {o : Bool} {t : T} (h : fnT N n g ts = some (o, t)) : (g (ce0 N ts)).bind ct0 = some (o, t) := by
 unfold fnT at h
 split at h
 ·exact h
 ·cases h
theorem aD0 {N : List Str} {n : Nat} {g : En -> Option Fl} {ts : List T} {r : Bool × T} (h : fnT N n g ts = some r) : ts.length = n := by
 unfold fnT at h
 split at h
 ·assumption
 ·cases h
theorem lV0 {C : Addr} {N : List Str} {n : Nat} {g : En -> Option Fl} {ts : List T} {t : List (Str × T)} (h : fnI C N n g ts = some t) : (g (fV0 C N ts)).bind (retI C) = some t := by
 unfold fnI at h
 split at h
 ·exact h
 ·cases h
theorem mZ0 {C : Addr} {N : List Str} {n : Nat} {g : En -> Option Fl} {ts : List T} {r : List (Str × T)} (h : fnI C N n g ts = some r) : ts.length + 1 = n := by
 unfold fnI at h
 split at h
 ·assumption
 ·cases h
section
variable {X : Cx} {Y : Fx} {k : Nat} {C : Addr} {ps : List Str} {x m : Str} {p pos apos : Pos} {e o : Expr} {es : List Expr} {gs : List T -> Option (Bool × T)} {fa : En -> Option (List T)} {fo : En -> Option T}
theorem ca0 {x : Str} {i : Int} (hg : Gl X x) (hm : ∃ t, X.mg x = some (.int i t)) (hd : (x == ("__debug__" : Str)) = false := by decide) : SE X Y (.Name x pos) (eC (.int i)) := by
 obtain ⟨t, hm⟩ := hm
 exact nb0 (v := .int i) hg hm ⟨t, rfl⟩ (fun _ _ => .int i) hd
theorem aI0 (D : aK0 X.prog X.w X.K X.mg X.base k x ps gs) (hr : Room k X.A) (hg : Gl X x) (ha : SA X Y (e :: es) fa)
  (hdb : (x == ("__debug__" : Str)) = false := by decide) (he : starEach (e :: es) X.env = (false, eval e X.env) :: starEach es X.env := by rfl) (hpl : (backTo pos (starEach es X.env)).any (·.1) = false := by rfl) :
  SE X Y (.Call (.Name x p) (e :: es) [] pos) (eFn gs fa) := by
 obtain ⟨f, fd, F, h1, h2, h3⟩ := D
 exact se_fn F hr hg h1 h2 h3 ha hdb he hpl
theorem dv0 (D : aK0 X.prog X.w X.K X.mg X.base k x ps gs) (hr : Room k X.A) (hg : Gl X x) (ha : SA X Y (e :: es) fa)
  (hdb : (x == ("__debug__" : Str)) = false := by decide) (he : starEach (e :: es) X.env = (false, eval e X.env) :: starEach es X.env := by rfl) (hpl : (backTo pos (starEach es X.env)).any (·.1) = false := by rfl) :
  FE X Y (.Call (.Name x p) (e :: es) [] pos) (eFnF gs fa) := by
 obtain ⟨f, fd, F, h1, h2, h3⟩ := D
 exact fe_fn F hr hg h1 h2 h3 ha hdb he hpl
theorem fe_mk {gs : List T -> Option (List (Str × T))} (D : mU0 X.prog X.w X.K X.mg X.base C k x ps gs) (hr : Room (k + 1) X.A) (hg : Gl X x) (ha : SA X Y (e :: es) fa)
  (hdb : (x == ("__debug__" : Str)) = false := by decide) (he : starEach (e :: es) X.env = (false, eval e X.env) :: starEach es X.env := by rfl) (hpl : (backTo pos (starEach es X.env)).any (·.1) = false := by rfl) :
  FE X Y (.Call (.Name x p) (e :: es) [] pos) (jB0 C gs fa) := by
 obtain ⟨f, fd, F, h1, h2, h3⟩ := D
 exact mT0 h1 F hr hg h2 h3 ha hdb he hpl
def cv0 (C : Addr) (m : Str) (gs : List T -> Option (Bool × T)) (fo : En -> Option T) (g : En -> Option (List T)) : En -> Option T := fun ε => match fo ε with
 | some (.ins C' fs) => if C' = C /\ fs.lookup m = none then (g ε).bind fun ts => match gs (.ins C' fs :: ts) with | some (true, t) => some t | _ => none else none
 | _ => none
theorem lP0 (σ : St) (H : Hp) (Q : VK) (h : TrF Y (cv0 C m gs fo fa) σ H Q) : lA0 C m (spP gs) [] E0 (Tr Y fo) (TrA Y fa) σ H Q := by
 obtain ⟨F, ε, u, rl, hf, k⟩ := h
 unfold cv0 at hf
 split at hf
 ·rename_i C' fs qo
  split at hf
  ·rename_i hc
   obtain ⟨rfl, hl⟩ := hc
   refine ⟨F, ε, _, rl, qo, fun F1 v H1 m1 r1 => ?_⟩
   cases hr : r1 with
   | @ins a _ dx fv _ fa' ha rf =>
    refine ⟨a, dx, fv, rfl, ha, rf.look_none hl, ?_⟩
    cases q : fa ε with
    | none => rw [q] at hf; cases hf
    | some ts =>
     rw [q] at hf
     simp only [Option.bind_some] at hf
     split at hf
     ·rename_i t q2
      cases hf
      refine ⟨F1, ε, ts, rl.mono m1, q, fun F2 vs H2 m2 r2 => ⟨F2, .ins C' fs :: ts, true, u, m2.trk, by rw [List.append_nil]; exact .cons (r1.keep m2.keep) r2, q2, fun F3 v H3 m3 r3 => ?_⟩⟩
      obtain ⟨b, rfl, n, nf, z⟩ := (show ∃ b, v = .ref b /\ H2 b = none /\ ¬ F3 b /\ Rp1 F3 H3 b u from r3)
      exact k F3 b H3 ((m1.trans m2).trans m3) ((m1.trans m2).free n) nf z
     ·cases hf
  ·cases hf
 ·cases hf
theorem eK0 {pl : Sem Bool} (ho : SE X Y o fo) (c : Cls X.K C) (D : bL0 X.prog X.w X.K X.mg X.base C k m ps gs) (hr : Room k X.A) (ha : SA X Y (e :: es) fa)
  (hst : starEach (e :: es) X.env = (false, eval e X.env) :: starEach es X.env := by rfl) (hpl : (backTo pos (starEach es X.env)).any (·.1) = false := by rfl)
  (ht : eval (.Call (.Attribute o m apos) (e :: es) [] pos) X.env = (do
   let ov <- eval o X.env
   standAt apos.atName
   let (f, first) <- holding [ov] (getMethod ov m pl)
   callWith pos f first (backTo pos (starEach (e :: es) X.env)) (backToKw pos (keywordEach [] X.env))) := by rfl) :
  SE X Y (.Call (.Attribute o m apos) (e :: es) [] pos) (bn0 C m gs fo fa) := by
 obtain ⟨f, fd, F, h1, h2⟩ := D
 exact mV0 ho c h1 F hr h2 ha hst hpl ht
theorem fH0 {pl : Sem Bool} (ho : SE X Y o fo) (c : Cls X.K C) (D : bL0 X.prog X.w X.K X.mg X.base C k m ps gs) (hr : Room k X.A)
  (ht : eval (.Call (.Attribute o m apos) [] [] pos) X.env = (do
   let ov <- eval o X.env
   standAt apos.atName
   let (f, first) <- holding [ov] (getMethod ov m pl)
   callWith pos f first (backTo pos (starEach [] X.env)) (backToKw pos (keywordEach [] X.env))) := by rfl) :
  SE X Y (.Call (.Attribute o m apos) [] [] pos) (bn0 C m gs fo aNil) := by
 obtain ⟨f, fd, F, h1, h2⟩ := D
 exact lb0 ho c h1 F hr h2 ht
theorem md0 {pl : Sem Bool} (ho : SE X Y o fo) (c : Cls X.K C) (D : bL0 X.prog X.w X.K X.mg X.base C k m ps gs) (hr : Room k X.A) (ha : SA X Y (e :: es) fa)
  (hst : starEach (e :: es) X.env = (false, eval e X.env) :: starEach es X.env := by rfl) (hpl : (backTo pos (starEach es X.env)).any (·.1) = false := by rfl)
  (ht : eval (.Call (.Attribute o m apos) (e :: es) [] pos) X.env = (do
   let ov <- eval o X.env
   standAt apos.atName
   let (f, first) <- holding [ov] (getMethod ov m pl)
   callWith pos f first (backTo pos (starEach (e :: es) X.env)) (backToKw pos (keywordEach [] X.env))) := by rfl) :
  FE X Y (.Call (.Attribute o m apos) (e :: es) [] pos) (cv0 C m gs fo fa) := by
 obtain ⟨f, fd, F, h1, h2⟩ := D
 exact PE.imp (iK0 ho c h1 F hr h2 .nil gt0 ha hst hpl ht) lP0
end
end L2.BD
set_option Elab.async false
set_option linter.all false
set_option maxRecDepth 100000
set_option maxHeartbeats 4000000
namespace L2.BD
open PySem PySem.Spec
theorem hv0 {n : Nat} {ε : En} {bd : T -> En -> Option En} {p : En -> Option Bool} {f : En -> Option T} {P : T -> Bool} {G : T -> T} : ∀ (ts : List T),
  (∀ t, t ∈ ts -> ∃ ε1, bd t (List.replicate n .un ++ ε) = some ε1 /\ p ε1 = some (P t) /\ (P t = true -> f ε1 = some (G t))) -> cL0 n ε bd p f ts = some ((ts.filter P).map G)
 | [], _ => rfl
 | t :: ts, h => by
  obtain ⟨ε1, h1, h2, h3⟩ := h t (List.mem_cons_self ..)
  have ih := hv0 ts fun u hu => h u (List.mem_cons_of_mem _ hu)
  unfold cL0
  rw [h1, Option.bind_some, h2, Option.bind_some, ih]
  cases q : P t with
  | true => rw [if_pos rfl, h3 q, Option.bind_some, Option.bind_some, List.filter_cons_of_pos q]; rfl
  | false => rw [if_neg Bool.false_ne_true, List.filter_cons_of_neg (by simp [q])]
theorem cZ0 {n : Nat} {it : En -> Option (List T)} {ε : En} {bd : T -> En -> Option En} {p : En -> Option Bool} {f : En -> Option T} {P : T -> Bool} {G : T -> T} {ts : List T} (hi : it ε = some ts) (hl : ts.length <= big)
  (h : ∀ t, t ∈ ts -> ∃ ε1, bd t (List.replicate n .un ++ ε) = some ε1 /\ p ε1 = some (P t) /\ (P t = true -> f ε1 = some (G t))) : aN0 n it bd p f ε = some (.lst ((ts.filter P).map G)) := by
 unfold aN0
 rw [hi, Option.bind_some, if_pos hl, hv0 ts h]
 rfl
theorem aR0 {n : Nat} {it : En -> Option (List T)} {ε : En} {bd : T -> En -> Option En} {f : En -> Option T} {G : T -> T} {ts : List T} (hi : it ε = some ts) (hl : ts.length <= big)
  (h : ∀ t, t ∈ ts -> ∃ ε1, bd t (List.replicate n .un ++ ε) = some ε1 /\ f ε1 = some (G t)) : aN0 n it bd be0 f ε = some (.lst (ts.map G)) := by
 have := cZ0 (p := be0) (P := fun _ => true) (f := f) (G := G) hi hl fun t ht => let ⟨ε1, h1, h2⟩ := h t ht; ⟨ε1, h1, rfl, fun _ => h2⟩
 rw [this, List.filter_eq_self.mpr (fun _ _ => rfl)]
theorem bk0 {bd : T -> En -> Option En} {body : En -> Option Fl} (I : Nat -> En -> Prop) : ∀ (ts : List T) (k : Nat) (ε : En), I k ε ->
  (∀ (i : Nat) t ε, ts[i]? = some t -> I (k + i) ε -> ∃ ε1 ε2, bd t ε = some ε1 /\ (body ε1 = some (.nx ε2) \/ body ε1 = some (.ct ε2)) /\ I (k + i + 1) ε2) -> ∃ ε', cn0 bd body ts ε = some (.nx ε') /\ I (k + ts.length) ε'
 | [], k, ε, h0, _ => ⟨ε, rfl, h0⟩
 | t :: ts, k, ε, h0, h => by
  obtain ⟨ε1, ε2, h1, h2, h3⟩ := h 0 t ε rfl h0
  obtain ⟨ε', h4, h5⟩ := bk0 I ts (k + 1) ε2 h3 fun i u η hu hi => by
   have e : k + 1 + i = k + (i + 1) := by omega
   rw [e] at hi ⊢
   exact h (i + 1) u η hu hi
  refine ⟨ε', ?_, by rw [List.length_cons, show k + (ts.length + 1) = k + 1 + ts.length by omega]; exact h5⟩
  unfold cn0
  rw [h1]
  rcases h2 with h2 | h2
  ·simp only [Option.bind_some, h2]; exact h4
  ·simp only [Option.bind_some, h2]; exact h4
theorem dj0 {bd : T -> En -> Option En} {body : En -> Option Fl} {o : Bool} {r : T} (I : En -> Prop) (P : T -> Bool) : ∀ (ts : List T) (ε : En), I ε ->
  (∀ t ε, t ∈ ts -> I ε -> ∃ ε1, bd t ε = some ε1 /\ (P t = true -> body ε1 = some (.rt o r)) /\ (P t = false -> ∃ ε2, body ε1 = some (.nx ε2) /\ I ε2)) ->
  (ts.any P = true -> cn0 bd body ts ε = some (.rt o r)) /\ (ts.any P = false -> ∃ ε', cn0 bd body ts ε = some (.nx ε') /\ I ε')
 | [], ε, h0, _ => ⟨(fun h => nomatch h), fun _ => ⟨ε, rfl, h0⟩⟩
 | t :: ts, ε, h0, h => by
  obtain ⟨ε1, h1, h2, h3⟩ := h t ε (List.mem_cons_self ..) h0
  cases q : P t with
  | true =>
   refine ⟨fun _ => ?_, fun z => by rw [List.any_cons, q] at z; cases z⟩
   unfold cn0
   rw [h1]
   simp only [Option.bind_some, h2 q]
  | false =>
   obtain ⟨ε2, h4, h5⟩ := h3 q
   obtain ⟨a, b⟩ := dj0 I P ts ε2 h5 fun u η hu => h u η (List.mem_cons_of_mem _ hu)
   rw [List.any_cons, q, Bool.false_or]
   refine ⟨fun z => ?_, fun z => ?_⟩
   ·have := a z
    unfold cn0
    rw [h1]
    simp only [Option.bind_some, h4, this]
   ·obtain ⟨ε', c, d⟩ := b z
    refine ⟨ε', ?_, d⟩
    unfold cn0
    rw [h1]
    simp only [Option.bind_some, h4, c]
end L2.BD
set_option Elab.async false
set_option linter.all false
set_option maxRecDepth 100000
set_option maxHeartbeats 4000000
namespace L2.BD
open PySem PySem.Spec PyProof.Rows
theorem hG0 {α : Type} : ∀ {l : List α} {i j : Nat} {a : α}, l.Nodup -> l[i]? = some a -> l[j]? = some a -> i = j
 | [], _, _, _, _, h, _ => by simp at h
 | x :: l, 0, 0, _, _, _, _ => rfl
 | x :: l, 0, j + 1, a, nd, h1, h2 => by
  simp at h1 h2
  subst h1
  exact absurd (List.mem_of_getElem? h2) (List.nodup_cons.mp nd).1
 | x :: l, i + 1, 0, a, nd, h1, h2 => by
  simp at h1 h2
  subst h2
  exact absurd (List.mem_of_getElem? h1) (List.nodup_cons.mp nd).1
 | x :: l, i + 1, j + 1, a, nd, h1, h2 => by
  simp at h1 h2
  rw [hG0 (List.nodup_cons.mp nd).2 h1 h2]
section
variable {X : Cx} {pins : List (Addr × Obj)} {σ : St} {H : Hp} {s : Shared}
end
end L2.BD
set_option Elab.async false
set_option linter.all false
set_option maxRecDepth 100000
set_option maxHeartbeats 4000000
namespace L2.BD
open PySem PySem.Spec PyProof.Rows
section
variable {P : Program} {w : World} {K : PySem.W.Frag} {mg : Str -> Option Value} {base : Heap}
end
section
variable {X : Cx} {Y : Fx} {st : Stmt} {e o : Expr} {es : List Expr} {pos cpos np : Pos} {f : En -> Option T} {fa : En -> Option (List T)} {x : Str} {C : Addr} {bmB : List Value} {newId initId B : String} {EE : XK}
end
section
variable {X : Cx} {CX : CXT} {k : Nat} {f C : Addr} {fd : FuncData} {ps : List Str} {sp : Sp} {E : XK} {x m : Str} {p pos apos : Pos} {e o : Expr} {es : List Expr} {ta : TE} {t : TA}
end
section
variable {X : Cx}
end
end L2.BD
set_option Elab.async false
set_option linter.all false
set_option maxRecDepth 100000
set_option maxHeartbeats 4000000
namespace L2.BD
open PySem PySem.Spec PyProof.Rows
section
open PySem.W PySem.Calls Builtin Builtin.ObjectAttr Builtin.Getset_descriptor
variable {prog : Program} {w : World} {A : Around} {E : Value -> Shared -> Prop} {s : Shared} {K : Frag} {x D : Addr} {R : Result -> Shared -> Prop}
end
section
variable {X : Cx} {Y : Fx} {e a : Expr} {es : List Expr} {pos p p2 : Pos} {f : En -> Option T} {C D : Addr} {x : Str} {b : Bool} {n : String}
end
section
variable {P : Program} {w : World} {K : PySem.W.Frag} {mg : Str -> Option Value} {base : Heap}
end
section
variable {X : Cx} {Y : Fx} {k : Nat} {f C : Addr} {fd : FuncData} {ps : List Str} {x m : Str} {e o : Expr} {es : List Expr} {gs : List T -> Option Out} {fa : En -> Option (List T)} {fo : En -> Option T}
end
section
variable {X : Cx} {Y : Fx} {a b : Expr} {pos : Pos} {f g : En -> Option T}
open Classical in
end
end L2.BD
set_option Elab.async false
set_option linter.all false
set_option maxRecDepth 100000
set_option maxHeartbeats 4000000
namespace L2.BD
open PySem PySem.Spec PyProof.Rows
section
variable {X : Cx} {Y : Fx} {e : Expr} {pos : Pos}
end
section
variable {P : Program} {w : World} {K : PySem.W.Frag} {mg : Str -> Option Value} {base : Heap}
end
end L2.BD
set_option Elab.async false
set_option linter.all false
set_option maxRecDepth 100000
set_option maxHeartbeats 4000000
namespace L2.BD
open PySem PySem.Spec PyProof.Rows
section
open PySem.AutoSeq1 (wpAny_loadPart')
open PySem.MeetsSeq PySem.MeetsSeq2 PySem.MeetsSeq3
def EqP (P : Program) (w : World) (A : Around) (s : Shared) (u v : Value) : Prop := ∀ (E : Value -> Shared -> Prop) (Q : Bool -> Shared -> Prop), Q true s -> wpAny (model P w) A (eqBool u v) Q E s
abbrev fx0 (P : Program) (w : World) (A : Around) (t : Sem Fin) (R : Result -> Shared -> Prop) (s : Shared) : Prop :=
 wpAny (model P w) A.in1 t (fun fin s' => match fin with | .done f => R (.ok f) s' | .again c' => c'.quiet = true /\ codeAny (model P w) A c' R s') (fun e s' => R (.error e) s') s
theorem ll0 {P : Program} {w : World} {a c : Addr} {xs ys : Array Value} {n m : Nat} {d1 d2 : Option Addr} {z1 z2 : Array (Option Value)} (hsz : xs.size = ys.size) (k : Nat) :
  ∀ i : Nat, xs.size - i = k -> ∀ (A : Around) (R : Result -> Shared -> Prop) (s : Shared), s.heap.get? a = some { cls := .type "list", dict := d1, data := .seq xs n, slots := z1 } -> s.heap.get? c = some { cls := .type "list", dict := d2, data := .seq ys m, slots := z2 } ->
   (∀ j (h1 : j < xs.size) (h2 : j < ys.size), EqP P w A.in1 s xs[j] ys[j]) -> R (.ok (.ret (.bool false))) s ->
   fx0 P w A (Builtin.«list.__eq__.loop» ⟨[.ref a, .ref c, rawInt i, rawInt 3], []⟩) R s := by
 induction k with
 | zero =>
  intro i hk A R s ha hc he h
  obtain ⟨hp, g, d, tk, os⟩ := s
  unfold fx0
  wp_walk using wpAny_loadPart' ha, wpAny_loadPart' hc
  have e1 : xs[((i : Nat) : Int).toNat]? = none := by simp; omega
  have e2 : ys[((i : Nat) : Int).toNat]? = none := by simp; omega
  rw [e1, e2]
  wp_walk using wpAny_loadPart' ha, wpAny_loadPart' hc
  show R (.ok (.ret (.bool (xs.size != ys.size)))) _
  rw [hsz]
  simpa using h
 | succ k ih =>
  intro i hk A R s ha hc he h
  obtain ⟨hp, g, d, tk, os⟩ := s
  unfold fx0
  wp_walk using wpAny_loadPart' ha, wpAny_loadPart' hc
  have l1 : i < xs.size := by omega
  have l2 : i < ys.size := by omega
  have e1 : xs[((i : Nat) : Int).toNat]? = some xs[i] := by simp [l1]
  have e2 : ys[((i : Nat) : Int).toNat]? = some ys[i] := by simp [l2]
  have e3 : ((i : Int) + 1) = ((i + 1 : Nat) : Int) := by push_cast; rfl
  rw [e1, e2]
  refine wpAny_bind (he i l1 l2 _ _ ?_)
  wp_walk
  rw [e3]
  exact ⟨plainId_quiet plain_eq_loop _, codeAny_builtin entry_eq_loop (by
   rw [Around.under_plainId plain_eq_loop _]
   exact ih (i + 1) (by omega) A R _ ha hc he h)⟩
theorem lX0 {P : Program} {w : World} {A : Around} {s : Shared} {a c : Addr} {xs ys : Array Value} {E : Value -> Shared -> Prop} {Q : Value -> Shared -> Prop} (ha : s.heap.IsList a xs) (hc : s.heap.IsList c ys) (hsz : xs.size = ys.size) (hu : A.units < cLine)
  (he : ∀ j (h1 : j < xs.size) (h2 : j < ys.size), EqP P w A.in1 s xs[j] ys[j]) (h : Q (.bool false) s) : wpAny (model P w) A (compareOp .NotEq (.ref a) (.ref c)) Q E s := by
 obtain ⟨⟨c1, d1, t1, z1⟩, g1, k1, n, q1⟩ := id ha
 obtain ⟨⟨c2, d2, t2, z2⟩, g2, k2, m, q2⟩ := id hc
 simp only at k1 q1 k2 q2
 subst k1 q1 k2 q2
 have main : fx0 P w A (Builtin.«list.__ne__» ⟨[.ref a, .ref c], []⟩) (PySem.wants (fun v s' => v ≠ .notImplemented /\ Q v s') E) s := by
  obtain ⟨hp, g, d, tk, os⟩ := s
  have f3 := AutoSeq1.sub_list_list
  have hne : ¬ (xs.size != ys.size) = true := by simp [hsz]
  unfold fx0
  wp_walk using wpAny_loadPart' g1, wpAny_loadPart' g2
  exact ⟨plainId_quiet plain_eq_loop _, codeAny_builtin entry_eq_loop (by
   rw [Around.under_plainId plain_eq_loop _]
   exact ll0 hsz _ 0 rfl A _ _ g1 g2 he ⟨(fun x => nomatch x), h⟩)⟩
 refine wpAny_richCompare_same_room (op := .NotEq) (T := "list") ⟨_, g1, rfl⟩ ⟨_, g2, rfl⟩ PySem.F.slot_list_ne ?_ hu
 exact wpAny_call (codeAny_call_builtin PySem.F.slot_list_ne.plain PySem.F.entry_list_ne (PySem.F.slot_list_ne.check _ _ _ _ _ _ _ _ ⟨_, g1, rfl⟩ (PySem.F.args_list_ne_2 _ _) main))
end
section
variable {X : Cx} {pins : List (Addr × Obj)} {σ : St} {H : Hp} {s : Shared} {F : Addr -> Prop}
theorem _root_.PySem.SeqAt.EqAt.p {A : Around} {u v : Value} (h : SeqAt.EqAt A s u v true) (P : Program) (w : World) : EqP P w A s u v := fun E Q q => h P w E Q q
theorem hx0 {a : Addr} {u : Value} (h : RelV (.ref a) u) : u = .ref a := by cases h; rfl
theorem li0 {A : Around} {n : Nat} (I : Inv X pins σ H s) (hu : A.units + n < cLine) {ks : List Str} {its jts : List Value} {xs ys : List V} {ts : List T} (r1 : Rps F H xs ts) (r2 : Rps F H ys ts) (v1 : Vals xs its) (v2 : Vals ys jts) (hk : ks.length = ts.length) (nd : ks.Nodup)
  (he : ∀ t ∈ ts, eqT n t t = some true) : ∀ j, j <= ts.length -> PySem.W.KeqHits A s (ks.zipWith (fun k v => ((Sum.inr k : Key), v)) jts) ((ks.zipWith (fun k v => ((Sum.inr k : Key), v)) its).drop j) true := by
 have l1 : its.length = ts.length := by rw [<- r1.length]; exact v1.length.symm
 have l2 : jts.length = ts.length := by rw [<- r2.length]; exact v2.length.symm
 have nk : ((ks.zipWith (fun k v => ((Sum.inr k : Key), v)) jts).map (·.1)).Nodup := by
  have : (ks.zipWith (fun k v => ((Sum.inr k : Key), v)) jts).map (·.1) = ks.map Sum.inr := by
   apply List.ext_getElem
   ·simp; omega
   ·intro i h1 h2
    simp
  rw [this]
  exact List.Pairwise.map Sum.inr (fun a b h z => h (Sum.inr.inj z)) nd
 intro j hj
 induction q : ts.length - j generalizing j with
 | zero =>
  have : j = ts.length := by omega
  rw [List.drop_of_length_le (by simp; omega)]
  exact .nil
 | succ k ih =>
  have hlt : j < ts.length := by omega
  have hz : j < (ks.zipWith (fun k v => ((Sum.inr k : Key), v)) its).length := by simp; omega
  rw [List.drop_eq_getElem_cons hz, List.getElem_zipWith]
  have e2 : (ks.zipWith (fun k v => ((Sum.inr k : Key), v)) jts)[j]? = some (Sum.inr ks[j], jts[j]) := by
   rw [List.getElem?_eq_getElem (by simp; omega), List.getElem_zipWith]
  obtain ⟨x, hx, rx⟩ := r1.get (List.getElem?_eq_getElem hlt)
  obtain ⟨y, hy, ry⟩ := r2.get (List.getElem?_eq_getElem hlt)
  obtain ⟨u, hu1, ru⟩ := v1.get hx
  obtain ⟨v, hv1, rv⟩ := v2.get hy
  rw [List.getElem?_eq_getElem (by omega)] at hu1 hv1
  cases hu1
  cases hv1
  have := gP0 (F := F) I n ts[j] ts[j] true A x y its[j] jts[j] (he _ (List.getElem_mem hlt)) hu (.v rx) (.v ry) ru rv
  exact .hit (e := true) (b := true) (dQ0 nk e2) this (ih (j + 1) hlt (by omega))
theorem lC0 {A : Around} {n : Nat} (I : Inv X pins σ H s) (hu : A.units + n + 2 < cLine) {a c : Addr} {kts : List (Str × T)} (r1 : Rb F H (.ref a) (.dct kts)) (r2 : Rb F H (.ref c) (.dct kts)) (nd : (kts.map (·.1)).Nodup) (he : ∀ t ∈ kts.map (·.2), eqT n t t = some true) :
  EqP X.prog X.w A s (.ref a) (.ref c) := by
 by_cases hac : a = c
 ·subst hac
  exact (SeqAt.EqAt.same _).p _ _
 obtain ⟨a', kvs, e, q1, p1⟩ := r1.dct_
 cases e
 obtain ⟨c', lvs, e, q2, p2⟩ := r2.dct_
 cases e
 obtain ⟨_, s1, vs, w1, d1⟩ := hR0 I.hok q1
 obtain ⟨_, s2, ws, w2, d2⟩ := hR0 I.hok q2
 obtain ⟨xs, its, rx, vx, rfl, ix⟩ := dr0 p1 w1
 obtain ⟨ys, jts, ry, vy, rfl, jx⟩ := dr0 p2 w2
 intro E Q hq
 unfold eqBool
 refine wpAny_holding ?_
 refine wpAny_ite_split (fun hab => absurd (by have := eq_of_beq hab; injection this) hac) (fun _ => ?_)
 refine wpAny_bind (PySem.W.keq_eq (r := true) s1 s2 d1 d2 (by omega) (fun _ => ?_) ?_)
 ·have := li0 (A := A.in1) (n := n) I (by have := Around.in1_units A; omega) rx ry vx vy (by simp) nd he 0 (Nat.zero_le _)
  simpa using this
 ·refine wpAny_truthy_bool ?_
  have : (((kts.map (·.1)).zipWith (fun k v => ((Sum.inr k : Key), v)) its).length == ((kts.map (·.1)).zipWith (fun k v => ((Sum.inr k : Key), v)) jts).length && true) = true := by
   simp [ix, jx]
  rw [this]
  exact hq
def iT0 (t : T) : Prop := eqT 7 t t = some true \/ ∃ kts, t = .dct kts /\ (kts.map (·.1)).Nodup /\ ∀ t ∈ kts.map (·.2), eqT 7 t t = some true
theorem oQ0 (hu : X.A.units + 20 < cLine) : OpR X (compareOp .NotEq) (fun x y H Q => ∃ F ts, Rb F H x (.lst ts) /\ Rb F H y (.lst ts) /\ (∀ t ∈ ts, iT0 t) /\ Q (.bl false) H) := by
 intro pins s σ H x y u v Q I ru rv h
 obtain ⟨F, ts, r1, r2, he, q⟩ := h
 have fin : EP X pins σ Q (.bool false) s := ⟨.bl false, H, I, rfl, q⟩
 obtain ⟨a, vs, rfl, ha, q1⟩ := r1.lst_
 obtain ⟨c, ws, rfl, hc, q2⟩ := r2.lst_
 cases ru; cases rv
 obtain ⟨its, w1, p1, _⟩ := I.list (SqL.of ha)
 obtain ⟨jts, w2, p2, _⟩ := I.list (SqL.of hc)
 have l1 : its.length = ts.length := by rw [<- q1.length]; exact w1.length.symm
 have l2 : jts.length = ts.length := by rw [<- q2.length]; exact w2.length.symm
 refine lX0 p1.isList p2.isList (by simp [l1, l2]) (by omega) (fun j h1 h2 => ?_) fin
 have hlt : j < ts.length := by simpa [l1] using h1
 obtain ⟨x, hx, rx⟩ := q1.get (List.getElem?_eq_getElem hlt)
 obtain ⟨y, hy, ry⟩ := q2.get (List.getElem?_eq_getElem hlt)
 obtain ⟨u, hu1, ru⟩ := w1.get hx
 obtain ⟨v, hv1, rv⟩ := w2.get hy
 rw [List.getElem?_eq_getElem (by omega)] at hu1 hv1
 cases hu1
 cases hv1
 have hin : X.A.in1.units <= X.A.units + 1 := by have := Around.in1_units X.A; omega
 rcases he _ (List.getElem_mem hlt) with e | ⟨kts, e, nd, ev⟩
 ·exact (gP0 (F := F) I 7 ts[j] ts[j] true X.A.in1 x y its[j] jts[j] e (by omega) (.v rx) (.v ry) ru rv).p _ _
 ·rw [e] at rx ry
  obtain ⟨a, _, rfl, _⟩ := (Rb.v rx).dct_
  obtain ⟨c, _, rfl, _⟩ := (Rb.v ry).dct_
  have eu := hx0 ru
  have ev' := hx0 rv
  have := lC0 (n := 7) (A := X.A.in1) I (by omega) (.v rx) (.v ry) nd ev
  rw [<- eu, <- ev'] at this
  exact this
end
end L2.BD
set_option Elab.async false
set_option linter.all false
set_option maxRecDepth 100000
set_option maxHeartbeats 4000000
namespace L2.BD
open PySem PySem.Spec PyProof.Rows
def NW (Y : Fx) (F : Addr -> Prop) : Addr -> Prop := fun b => F b /\ Y.H₀ b = none
def TrN (Y : Fx) (f : En -> Option T) : TE := fun σ H Q => ∃ F ε t, Rel Y F ε σ H /\ f ε = some t /\ ∀ F' v H', Mono F H F' H' -> Rp (NW Y F') H' v t -> Q v H'
def TrNA (Y : Fx) (f : En -> Option (List T)) : TA := fun σ H Q => ∃ F ε ts, Rel Y F ε σ H /\ f ε = some ts /\ ∀ F' vs H', Mono F H F' H' -> Rps (NW Y F') H' vs ts -> Q vs H'
abbrev NE (X : Cx) (Y : Fx) (e : Expr) (f : En -> Option T) : Prop := PE X e (TrN Y f)
abbrev NA (X : Cx) (Y : Fx) (es : List Expr) (f : En -> Option (List T)) : Prop := PA X es (TrNA Y f)
theorem NW.keep {Y : Fx} {F F' : Addr -> Prop} {H H' : Hp} (m : Mono F H F' H') : Keep (NW Y F) H (NW Y F') H' := ⟨fun b h => ⟨m.sub b h.1, h.2⟩, fun b o _ h => m.ext b o h, fun b xs h => m.ext b _ h⟩
theorem Rel.none {Y : Fx} {F : Addr -> Prop} {ε : En} {σ : St} {H : Hp} (r : Rel Y F ε σ H) {b : Addr} (h : H b = .none) : Y.H₀ b = .none := by
 cases q : Y.H₀ b with
 | none => rfl
 | some o => rw [r.same b o q] at h; cases h
def cM0 : T -> Bool
 | .tup ts => ts.all aQ0
 | t => aQ0 t
theorem Rp.flatG {F G : Addr -> Prop} {H : Hp} {v : V} {t : T} (r : Rp F H v t) (h : aQ0 t = true) : Rp G H v t := by
 cases r <;> first | (cases h; done) | constructor
theorem Rps.flatG {F G : Addr -> Prop} {H : Hp} : ∀ {vs : List V} {ts : List T}, Rps F H vs ts -> ts.all aQ0 = true -> Rps G H vs ts
 | _, _, .nil, _ => .nil
 | _, _, .cons h r, e => by
  rw [List.all_cons, Bool.and_eq_true] at e
  exact .cons (h.flatG e.1) (Rps.flatG r e.2)
theorem Rp.plainG {F G : Addr -> Prop} {H : Hp} {v : V} {t : T} (r : Rp F H v t) (h : cM0 t = true) : Rp G H v t := by
 cases r with
 | tup ha rs => exact .tup ha (rs.flatG h)
 | non => exact .non
 | bl b => exact .bl b
 | int b => exact .int b
 | str b => exact .str b
 | _ => cases h
theorem Rps.plainG {F G : Addr -> Prop} {H : Hp} : ∀ {vs : List V} {ts : List T}, Rps F H vs ts -> ts.all cM0 = true -> Rps G H vs ts
 | _, _, .nil, _ => .nil
 | _, _, .cons h r, e => by
  rw [List.all_cons, Bool.and_eq_true] at e
  exact .cons (h.plainG e.1) (Rps.plainG r e.2)
theorem Rpk.plainG {F G : Addr -> Prop} {H : Hp} : ∀ {vs : List (Key × V)} {ts : List (Str × T)}, Rpk F H vs ts -> ts.all (fun p => cM0 p.2) = true -> Rpk G H vs ts
 | _, _, .nil, _ => .nil
 | _, _, .cons h r, e => by
  rw [List.all_cons, Bool.and_eq_true] at e
  exact .cons (h.plainG e.1) (Rpk.plainG r e.2)
def eP (f : En -> Option T) : En -> Option T := fun ε => (f ε).bind fun t => if cM0 t = true then some t else none
def okQ : T -> Bool
 | .lst ts => ts.all cM0
 | .dct kts => kts.all fun p => cM0 p.2
 | _ => false
def eQ (f : En -> Option T) : En -> Option T := fun ε => (f ε).bind fun t => if okQ t = true then some t else none
theorem ev0 {f : En -> Option T} {q : T -> Bool} {ε : En} {t : T} (h : ((f ε).bind fun t => if q t = true then some t else none) = some t) : f ε = some t /\ q t = true := by
 cases e : f ε with
 | none => rw [e] at h; cases h
 | some u =>
  rw [e] at h
  simp only [Option.bind_some] at h
  split at h
  ·cases h; exact ⟨rfl, by assumption⟩
  ·cases h
section
variable {X : Cx} {Y : Fx} {e a b : Expr} {es : List Expr} {pos : Pos} {f g : En -> Option T} {fa : En -> Option (List T)}
theorem jW0 (h : SE X Y e f) : NE X Y e (eP f) := PE.imp h fun σ H Q ⟨F, ε, t, r, hf, k⟩ => by
 obtain ⟨h1, h2⟩ := ev0 hf
 exact ⟨F, ε, t, r, h1, fun F' v H' m rv => k F' v H' m (rv.plainG h2)⟩
theorem nv0 (h : FE X Y e f) : NE X Y e (eQ f) := by
 intro pins s σ H Q I ⟨F, ε, t, r, hf, k⟩
 obtain ⟨hf, hq⟩ := ev0 hf
 refine thn (h pins s σ H (fun v H' => ∃ F' a, v = .ref a /\ Mono F H F' H' /\ H a = none /\ ¬ F' a /\ Rp1 F' H' a t) I ⟨F, ε, t, r, hf, fun F' a H' m n nf q => ⟨F', a, rfl, m, n, nf, q⟩⟩) fun u s1 ⟨v, H1, I1, rv, F1, a, ev, m, n, nf, q⟩ => ?_
 subst ev
 cases q with
 | @lst xs ts ha rs => exact ⟨.ref a, H1, I1, rv, k _ _ _ (m.freeze n ⟨_, ha⟩) (.lst ⟨.inr rfl, r.none n⟩ ha (rs.plainG hq))⟩
 | @dct kvs kts ha rs =>
  have z1 : ∀ o u, X.H₀ a ≠ some (.frz o u) := fun o u z => by have := I.base.frzs a o u z; rw [n] at this; cases this
  have z2 : ∀ xs, X.H₀ a ≠ some (.tup xs) := fun xs z => by have := I.base.tups a xs z; rw [n] at this; cases this
  have z3 : ∀ ps, X.H₀ a ≠ some (.tbl ps) := fun ps z => by obtain ⟨mo, w⟩ := I.base.tbls a ps z; rw [n] at w; cases w
  obtain ⟨ob, I2⟩ := I1.seal ha (.inr trivial) z1 z2 z3
  have kp : Keep F1 H1 (fun b => F1 b \/ b = a) (upd H1 a (.frz ob (.dK kvs))) := ⟨fun _ h => .inl h, fun b u f q => by rw [an0 (fun (z : b = a) => nf (z ▸ f))]; exact q, fun b xs q => by rw [an0 (fun (z : b = a) => by rw [z, ha] at q; cases q)]; exact q⟩
  have m2 : Mono F H (fun b => F1 b \/ b = a) (upd H1 a (.frz ob (.dK kvs))) := ⟨fun b u q => by rw [an0 (au0 q n)]; exact m.ext b u q, fun b q => .inl (m.sub b q), fun b q => q.elim (m.new b) fun z => .inr (z ▸ n), fun b q => by
   by_cases z : b = a
   ·exact ⟨_, by rw [z]; exact aq0⟩
   ·rcases q with q | q
    ·obtain ⟨u, w⟩ := m.trk b q
     exact ⟨u, by rw [an0 z]; exact w⟩
    ·exact absurd q z⟩
  exact ⟨.ref a, _, I2, rv, k _ _ _ m2 (.dct ⟨.inr rfl, r.none n⟩ aq0 ((rs.keep kp).plainG hq))⟩
 | ins ha rs => cases hq
theorem ne_op {op : Operator} {r : R2} {φ : T -> T -> Option T} (ho : OpR X (binaryOp op) r) (o : Op2 r φ) (ha : NE X Y a f) (hb : NE X Y b g) : NE X Y (.BinOp a op b pos) (e2 φ f g) := PE.imp (nX0 ho ha hb) fun σ H Q h => by
 obtain ⟨F, ε, u, rl, hf, k⟩ := h
 unfold e2 at hf
 cases q1 : f ε with
 | none => rw [q1] at hf; cases hf
 | some s =>
  rw [q1] at hf
  cases q2 : g ε with
  | none => simp only [Option.bind_some, q2] at hf; cases hf
  | some t =>
   simp only [Option.bind_some, q2] at hf
   refine ⟨F, ε, s, rl, q1, fun F1 x H1 m1 r1 => ⟨F1, ε, t, rl.mono m1, q2, fun F2 y H2 m2 r2 => ?_⟩⟩
   have rl2 := rl.mono (m1.trans m2)
   refine o (NW Y F2) H2 x y s t u Q (fun b h => m2.trk b h.1) (.v (r1.keep (NW.keep m2))) (.v r2) hf fun F3 v H3 m3 r3 => ?_
   refine k (fun b => F2 b \/ F3 b) v H3 ((m1.trans m2).trans ⟨m3.ext, fun b h => .inl h, fun b h => h.elim .inl fun h => (m3.new b h).imp (fun z => z.1) id, fun b h => h.elim (fun h => let ⟨o, q⟩ := m2.trk b h; ⟨o, m3.ext b o q⟩) (m3.trk b)⟩) (r3.keep ⟨fun b h => ⟨.inr h, ?_⟩, fun b o _ q => q, fun b xs q => q⟩)
   rcases m3.new b h with z | z
   ·exact z.2
   ·exact rl2.none z
theorem oo0 : NA X Y [] aNil := PA.imp cI0 fun σ H Q ⟨F, ε, ts, r, hf, k⟩ => by cases hf; exact k F [] H r.refl .nil
theorem oe0 (ha : NE X Y e f) (hr : NA X Y es fa) (hs : starEach (e :: es) X.env = (false, eval e X.env) :: starEach es X.env := by rfl) : NA X Y (e :: es) (aa0 f fa) := PA.imp (bo0 ha hr hs) fun σ H Q ⟨F, ε, ts, r, hf, k⟩ => by
 obtain ⟨t, us, q1, q2, rfl⟩ := ds0 hf
 exact ⟨F, ε, t, r, q1, fun F1 x H1 m1 r1 => ⟨F1, ε, us, r.mono m1, q2, fun F2 xs H2 m2 r2 => k F2 (x :: xs) H2 (m1.trans m2) (.cons (r1.keep (NW.keep m2)) r2)⟩⟩
theorem oS0 {x1 : Nat} (h : NA X Y es fa) : NE X Y (.Tuple es x1 pos) (eTup fa) := PE.imp (mC0 h) fun σ H Q ⟨F, ε, u, rl, hf, k⟩ => by
 unfold eTup at hf
 cases q : fa ε with
 | none => rw [q] at hf; cases hf
 | some ts =>
  rw [q] at hf
  simp only [Option.bind_some] at hf
  split at hf
  ·cases hf
   refine ⟨F, ε, ts, rl, q, fun F1 xs H1 m1 r1 => ⟨cN0 (by rw [r1.length]; assumption), fun pp hp => ?_⟩⟩
   exact k F1 _ _ (m1.trans (Mono.laid m1.trk hp)) (.tup aq0 (r1.keep (NW.keep (Mono.laid m1.trk hp))))
  ·cases hf
theorem lj0 {n : Nat} {it : En -> Option (List T)} {g : TG} {bd : T -> En -> Option En} {p : En -> Option Bool} {f : En -> Option T} (hb : BdOk n g bd) {σ : St} {H : Hp} {Q : VK} {F : Addr -> Prop} {ε : En} {u : T} (r : Rel Y F ε σ H) (hf : aN0 n it bd p f ε = some u)
  (k : ∀ F' a H', Mono F H F' H' -> H a = none -> ¬ F' a -> Rp1 (NW Y F') H' a u -> Q (.ref a) H') :
  ii0 n (TrI Y it) g (TrT Y p) (TrN Y f) σ H Q := by
 unfold aN0 at hf
 cases q : it ε with
 | none => rw [q] at hf; cases hf
 | some ts =>
  rw [q] at hf
  simp only [Option.bind_some] at hf
  split at hf
  rotate_left
  ·cases hf
  rename_i hbig
  cases q2 : cL0 n ε bd p f ts with
  | none => rw [q2] at hf; cases hf
  | some us =>
   rw [q2] at hf
   cases hf
   refine ⟨F, ε, ts, r, q, fun F1 H1 J m1 yl => ?_⟩
   refine ⟨fun i m ys H => m = ts.length - i /\ i <= ts.length /\ ys.length <= i /\ ∃ F2 us1 us2, us = us1 ++ us2 /\ Mono F1 H1 F2 H /\ Rps (NW Y F2) H ys us1 /\ cL0 n ε bd p f (ts.drop i) = some us2,
    ⟨ts.length, by simp, Nat.zero_le _, Nat.zero_le _, F1, [], us, rfl, .refl m1.trk, .nil, by simpa using q2⟩, ?_⟩
   rintro i m ys H2 ⟨rfl, hi, hys, F2, us1, us2, rfl, m2, rs, l2⟩
   obtain ⟨y1, y2⟩ := yl i F2 H2 m2.keep m2.trk
   by_cases hlt : i < ts.length
   ·have e : ts[i]? = some ts[i] := by simp [hlt]
    obtain ⟨go, yld⟩ := y1 _ e
    have hd : ts.drop i = ts[i] :: ts.drop (i + 1) := List.drop_eq_getElem_cons hlt
    rw [hd] at l2
    unfold cL0 at l2
    refine .inr ⟨go, fun x H' y => ?_⟩
    obtain ⟨F3, m3, rx⟩ := yld x H' y
    have r3 := ((r.mono m1).mono (m2.trans m3)).block n
    cases qb : bd ts[i] (List.replicate n .un ++ ε) with
    | none => rw [qb] at l2; cases l2
    | some ε3 =>
     rw [qb] at l2
     simp only [Option.bind_some] at l2
     cases qp : p ε3 with
     | none => rw [qp] at l2; cases l2
     | some b =>
      rw [qp] at l2
      simp only [Option.bind_some] at l2
      refine hb Y x σ H' F3 ε ts[i] ε3 _ r3 rx qb fun σ3 r4 hσ => ⟨hσ, F3, ε3, b, r4, qp, fun F4 H4 m4 => ?_⟩
      have m14 : Mono F1 H1 F4 H4 := (m2.trans m3).trans m4
      cases b with
      | false =>
       dsimp only
       rw [if_neg Bool.false_ne_true] at l2 ⊢
       exact ⟨_, by omega, rfl, hlt, by omega, F4, us1, us2, rfl, m14, rs.keep (NW.keep (m3.trans m4)), l2⟩
      | true =>
       dsimp only
       rw [if_pos rfl] at l2 ⊢
       cases qf : f ε3 with
       | none => rw [qf] at l2; cases l2
       | some t3 =>
        rw [qf] at l2
        simp only [Option.bind_some] at l2
        cases qr : cL0 n ε bd p f (ts.drop (i + 1)) with
        | none => rw [qr] at l2; cases l2
        | some us3 =>
         rw [qr] at l2
         cases l2
         refine ⟨F4, ε3, t3, r4.mono m4, qf, fun F5 v H5 m5 r5 => ⟨?_, _, (show ts.length - (i + 1) < ts.length - i by omega), rfl, hlt, ?_, F5, us1 ++ [t3], us3, by simp, m14.trans m5, (rs.keep (NW.keep ((m3.trans m4).trans m5))).append (.cons r5 .nil), (by first | exact qr | rfl)⟩⟩
         ·exact fF0 (by omega)
         ·rw [List.length_append, List.length_singleton]; omega
   ·have e : i = ts.length := by omega
    subst e
    have hd : ts.drop ts.length = [] := List.drop_length
    rw [hd] at l2
    cases l2
    refine .inl ⟨y2 rfl, fun pp hp => ?_⟩
    rw [List.append_nil] at k
    exact k F2 _ _ ((m1.trans m2).trans (Mono.laid m2.trk hp)) ((m1.trans m2).free hp) (Trk.new m2.trk hp) (.lst aq0 (rs.keep (NW.keep (Mono.laid m2.trk hp))))
end
def spN (gs : List T -> Option T) : Sp := fun vs H Q _ => ∃ F ts t, Trk F H /\ Rps F H vs ts /\ gs ts = some t /\ ∀ F' a H', Mono F H F' H' -> H a = none -> ¬ F' a -> Rp1 (NW ⟨H, F, fun _ => True, fun _ _ => False⟩ F') H' a t -> Q (.ref a) H'
end L2.BD
set_option Elab.async false
set_option linter.all false
set_option maxRecDepth 100000
set_option maxHeartbeats 4000000
namespace L2.BD
open PySem PySem.Spec PyProof.Rows
theorem _root_.L2.Inv.unseal {X : Cx} {pins : List (Addr × Obj)} {σ : St} {H : Hp} {s : Shared} {a : Addr} {o : Obj} {kvs : List (Key × V)} (I : Inv X pins σ H s) (h : H a = some (.frz o (.dK kvs))) (h0 : X.H₀ a = none) : Inv X pins σ (upd H a (.dK kvs)) s := by
 have okf := I.hok a _ h
 obtain ⟨hob, ok⟩ := (show s.heap.get? a = some o /\ ObjOk X.prog X.w H s.heap a (.dK kvs) from okf)
 have hm : ∀ b u, H b = some u -> b ≠ a -> upd H a (.dK kvs) b = some u := fun b u q ne => by rw [an0 ne]; exact q
 have up : ∀ b u, H b = some u -> (∀ z w, u ≠ .frz z w) -> upd H a (.dK kvs) b = some u := fun b u q ne => hm b u q fun z => by rw [z, h] at q; exact ne _ _ (Option.some.inj q).symm
 have nn : ∀ b, H b = none -> upd H a (.dK kvs) b = none := fun b q => by rw [an0 (fun z => by rw [z, h] at q; cases q)]; exact q
 refine ⟨I.ok, I.os, I.bare, ⟨I.base.keep, I.base.slot, fun b o e n hx => nn b (I.base.free b o e n hx), I.base.there, fun b xs e => up b _ (I.base.tups b xs e) (fun z w q => by cases q), fun b o u e => ?_, fun b ps e => ?_⟩, I.loc, I.cell, nn _ I.free, fun x c e => nn c (I.freeC x c e), fun p hp => ?_, fun b u e => ?_, I.len⟩
 ·exact hm b _ (I.base.frzs b o u e) fun z => by rw [z, h0] at e; cases e
 ·obtain ⟨mo, q⟩ := I.base.tbls b ps e
  exact ⟨mo, hm b _ q fun z => by rw [z, h0] at e; cases e⟩
 ·obtain ⟨h1, h2, h3⟩ := I.pin p hp
  exact ⟨h1, nn _ h2, h3⟩
 ·have st : ∀ {c : Addr} {v : HO}, ObjOk X.prog X.w H s.heap c v -> ObjOk X.prog X.w (upd H a (.dK kvs)) s.heap c v := fun x => x.stay (fun _ _ _ q => q) (fun c q => up c _ q fun z w e => by cases e) fun c xs q => up c _ q fun z w e => by cases e
  by_cases hba : b = a
  ·subst hba
   rw [aq0] at e
   cases e
   exact st ok
  ·rw [an0 hba] at e
   exact st (I.hok b u e)
theorem kT0 {X : Cx} {st : Stmt} {t : TS} (h : PS X st t) : PS X st (fun D σ H => ∃ a o kvs, H a = some (.frz o (.dK kvs)) /\ X.H₀ a = none /\ t D σ (upd H a (.dK kvs))) := fun pins s σ H D I ⟨a, o, kvs, e, e0, q⟩ => h pins s σ _ D (I.unseal e e0) q
def jx0 : V -> List V -> Hp -> VK -> Prop := fun x vs H Q => ∃ l kvs, x = .ref l /\ vs = [] /\ H l = some (.dK kvs) /\ Q .non (upd H l (.dK []))
theorem js0 {X : Cx} : MtM X "dict.clear" jx0 := by
 intro pins s σ H x vs v us Q I rx rv h
 obtain ⟨l, kvs, rfl, rfl, hH, q⟩ := h
 cases rx
 have hus := rv.zero
 subst hus
 exact nz0 I hH fun s' I' => ⟨.non, _, I', rfl, q⟩
def fixO (ws : List (Option (V × T))) : En := ws.map fun p => match p with | some p => .fix p.1 p.2 | none => .un
theorem cV0 {F : Addr -> Prop} {H : Hp} {σ : St} {ws : List (Option (V × T))} {me : Addr -> Prop} {xk : Addr -> Hp -> Prop} (tk : Trk F H) (hl : σ.length = ws.length) (hs : ∀ (i : Nat) p, ws[i]? = some (some p) -> σ[i]? = some (some p.1) /\ Rp F H p.1 p.2) : Rel ⟨H, F, me, xk⟩ F (fixO ws) σ H := by
 have no : ∀ (i : Nat) z, (fixO ws)[i]? = some z -> z = .un \/ ∃ p, ws[i]? = some (some p) /\ z = .fix p.1 p.2 := fun i z e => by
  unfold fixO at e
  rw [List.getElem?_map] at e
  cases q : ws[i]? with
  | none => rw [q] at e; cases e
  | some p =>
   rw [q] at e
   cases p with
   | none => exact .inl (Option.some.inj e).symm
   | some p => exact .inr ⟨p, rfl, (Option.some.inj e).symm⟩
 refine ⟨by unfold fixO; rw [List.length_map]; exact hl.symm, fun i t e => ?_, fun i t e => ?_, fun i j t u a ne e1 e2 s1 s2 => ?_, fun _ _ h => h, fun _ h => h, fun _ h => .inl h, tk, fun i t a e hi s1 => ?_, fun i v t e => ?_⟩
 ·rcases no i _ e with z | ⟨p, _, z⟩ <;> cases z
 ·rcases no i _ e with z | ⟨p, _, z⟩ <;> cases z
 ·rcases no i _ e1 with z | ⟨p, _, z⟩ <;> cases z
 ·rcases no i _ e with z | ⟨p, _, z⟩ <;> cases z
 ·rcases no i _ e with z | ⟨p, hp, z⟩
  ·cases z
  ·cases z
   exact hs i p hp
mutual
inductive LF : T -> Prop
 | non : LF .non
 | bl (b : Bool) : LF (.bl b)
 | int (i : Int) : LF (.int i)
 | str (x : Str) : LF (.str x)
 | tup {ts : List T} (h : LFs ts) : LF (.tup ts)
 | ins {C : Addr} {fs : List (Str × T)} (h : LFf fs) : LF (.ins C fs)
inductive LFs : List T -> Prop
 | nil : LFs []
 | cons {t : T} {ts : List T} (h : LF t) (r : LFs ts) : LFs (t :: ts)
inductive LFf : List (Str × T) -> Prop
 | nil : LFf []
 | cons {k : Str} {t : T} {ts : List (Str × T)} (h : LF t) (r : LFf ts) : LFf ((k, t) :: ts)
end
theorem LFs.of : ∀ {ts : List T}, (∀ t ∈ ts, LF t) -> LFs ts
 | [], _ => .nil
 | t :: ts, h => .cons (h t (.head _)) (LFs.of fun u hu => h u (.tail _ hu))
def OIns (F : Addr -> Prop) (H : Hp) : Addr -> Prop := fun b => F b /\ ∃ C dx fs, H b = some (.ins C dx fs)
mutual
theorem LF.rp {F : Addr -> Prop} {H : Hp} : ∀ {v : V} {t : T}, LF t -> Rp F H v t -> Rp (OIns F H) H v t
 | _, _, .non, r => by cases r; exact .non
 | _, _, .bl b, r => by cases r; exact .bl b
 | _, _, .int b, r => by cases r; exact .int b
 | _, _, .str b, r => by cases r; exact .str b
 | _, _, .tup h, r => by cases r with | tup ha rs => exact .tup ha (LFs.rp h rs)
 | _, _, .ins h, r => by cases r with | ins f ha rs => exact .ins ⟨f, _, _, _, ha⟩ ha (LFf.rp h rs)
theorem LFs.rp {F : Addr -> Prop} {H : Hp} : ∀ {v : List V} {t : List T}, LFs t -> Rps F H v t -> Rps (OIns F H) H v t
 | _, _, .nil, r => by cases r; exact .nil
 | _, _, .cons h hs, r => by cases r with | cons a b => exact .cons (LF.rp h a) (LFs.rp hs b)
theorem LFf.rp {F : Addr -> Prop} {H : Hp} : ∀ {v : List (Str × V)} {t : List (Str × T)}, LFf t -> Rpf F H v t -> Rpf (OIns F H) H v t
 | _, _, .nil, r => by cases r; exact .nil
 | _, _, .cons h hs, r => by cases r with | cons a b => exact .cons (LF.rp h a) (LFf.rp hs b)
end
end L2.BD
set_option Elab.async false
set_option linter.all false
set_option maxRecDepth 100000
set_option maxHeartbeats 4000000
namespace L2.BD
open PySem PySem.Spec PyProof.Rows
abbrev exT (t : Fx -> TE) : TE := fun σ H Q => ∃ Y, t Y σ H Q
theorem pe_ex {X : Cx} {e : Expr} {t : Fx -> TE} (h : ∀ Y, PE X e (t Y)) : PE X e (exT t) := fun pins s σ H Q I ⟨Y, q⟩ => h Y pins s σ H Q I q
abbrev atS (K : PySem.W.Frag) (i : Nat) (j : Int) : TE := tOp (rIx K) (tVar i) (tC (.int j))
section
variable {P : Program} {w : World} {K : PySem.W.Frag} {mg : Str -> Option Value} {base : Heap}
theorem jY0 {x qual : Str} {st : Stmt} {f : Addr} {fd : FuncData} {N ps : List Str} {k : Nat} {gs : List T -> Option T} {it : En -> Option (List T)} {fe f0 f1 f3 : En -> Option T} (Fn : Fun K x qual st f fd) (S : FnScope N ps (af0 st)) (hN : N.length = 2) (hps : ps.length = 1)
  (hg : ∀ ts r, gs ts = some r -> ∃ a cs t0 t1 t3, ts = [a] /\ aN0 1 it (am0 0) be0 fe [.sh a, .un] = some (.lst cs) /\ f0 [.sh a, .sh (.lst cs)] = some t0 /\ f1 [.sh a, .sh (.lst cs)] = some t1 /\ f3 [.sh a, .sh (.lst cs)] = some t3 /\ r = .lst [t0, t1, .lst cs, t3])
  (hbody : ∀ (cdv : Value) (A : Around) (outer : List Env) (s : Shared) (H : Hp) (E : XK) (Y : Fx), Room k (A.deeper (envOfC qual (af0 st) s.heap.objs.size f cdv)) ->
   PSs ((cxOf CX0 P w K mg base N qual (af0 st) f cdv A outer s H E).nox) (bt0 st) (tSeq (tAsg (ii0 1 (TrI Y it) (bZ0 0) (TrT Y be0) (TrN Y fe)) (bZ0 1)) (tRet (tLst (dF0 (TrN Y f0) (dF0 (TrN Y f1) (dF0 (tVar 1) (dF0 (TrN Y f3) tNil)))))))) :
  FnOk P w K mg base CX0 (k + 1) f fd ps (spN gs) := by
 refine Fn.ok S (fun vs H Q E h => ?_) fun cdv A outer s H vs Q E hr h => ?_
 ·obtain ⟨F, ts, t, _, r, e, _⟩ := h
  obtain ⟨a, _, _, _, _, ets, _⟩ := hg ts _ e
  rw [r.length, hps, ets]
  rfl
 ·obtain ⟨F, ts, t, tk, r, e, q⟩ := h
  obtain ⟨a, cs, t0, t1, t3, ets, ec, e0, e1, e3, er⟩ := hg ts _ e
  subst ets er
  cases r with
  | @cons v0 _ vs1 _ r0 r =>
  cases r
  have rr : Rps F H [v0] [a] := .cons r0 .nil
  have est : start N [v0] = [some v0, none] := by
   unfold start
   rw [hN]
   rfl
  have eit : ce0 N [a] = [.sh a, .un] := by
   unfold ce0
   rw [hN]
   rfl
  refine ⟨_, hbody cdv A outer s H E ⟨H, F, fun _ => True, fun _ _ => False⟩ hr, ?_⟩
  rw [est]
  have rl := dg0 (N := N) tk rr
  rw [est, eit] at rl
  unfold tSeq tAsg
  refine lj0 aV0 rl ec fun F1 l H1 m1 hn nf rp => ?_
  have m1' := m1.freeze hn rp.there
  have rpl : Rp (NW ⟨H, F, fun _ => True, fun _ _ => False⟩ (fun b => F1 b \/ b = l)) H1 (.ref l) (.lst cs) := by
   cases rp with
   | lst h rs => exact .lst ⟨.inr rfl, hn⟩ h (rs.keep ⟨fun b z => ⟨.inl z.1, z.2⟩, fun _ _ _ z => z, fun _ _ z => z⟩)
  have rpl' : Rp (fun b => F1 b \/ b = l) H1 (.ref l) (.lst cs) := rpl.keep ⟨fun b z => z.1, fun _ _ _ z => z, fun _ _ z => z⟩
  have rl1 := (rl.mono m1').set_sh (i := 1) rpl'
  refine ⟨_, _, t0, rl1, e0, fun F2 x0 H2 m2 r0' => ?_⟩
  refine ⟨_, _, t1, rl1.mono m2, e1, fun F3 x1 H3 m3 r1' => ?_⟩
  refine ⟨.ref l, rfl, ?_⟩
  refine ⟨_, _, t3, (rl1.mono m2).mono m3, e3, fun F4 x3 H4 m4 r3' => ?_⟩
  refine ⟨cN0 (show 4 <= big by decide), fun p hp => ?_⟩
  have ml := Mono.laid (o := .lst [x0, x1, .ref l, x3]) m4.trk hp
  have m24 := (m2.trans m3).trans m4
  refine q F4 p _ (((m1'.trans m24)).trans ml) ((m1'.trans m24).free hp) (Trk.new m4.trk hp) (.lst aq0 ?_)
  exact .cons (r0'.keep (NW.keep ((m3.trans m4).trans ml))) (.cons (r1'.keep (NW.keep (m4.trans ml))) (.cons (rpl.keep (NW.keep (m24.trans ml))) (.cons (r3'.keep (NW.keep ml)) .nil)))
end
theorem lL0 {K : PySem.W.Frag} {D : Ends} {σ : St} {H : Hp} {a l2 n : Addr} {x0 x1 x3 : V} {cs ns : List V} {M : Addr -> Prop} (s2 : σ[2]? = some (some (.ref a))) (s5 : σ[5]? = some (some (.ref n))) (hl : 6 < σ.length)
  (ha : H a = some (.lst [x0, x1, .ref l2, x3])) (hc : H l2 = some (.lst cs)) (hn : H n = some (.lst ns)) (kn : ns.length <= 10) (kc : cs.length <= 10)
  (hcs : ∀ (i : Nat) x, cs[i]? = some x -> ∃ c y0 y1 y2 y3 b bs, x = .ref c /\ H c = some (.tup [y0, y1, y2, y3, .ref b]) /\ H b = some (.lst bs) /\ bs.length <= 1000 /\ M b /\ b ≠ l2 /\ b ≠ n /\ b ≠ a)
  (post : ∀ σ' H', (∀ i, i ≠ 6 -> σ'[i]? = σ[i]?) -> σ'.length = σ.length -> (∀ b, H' b = H b \/ (M b /\ b ≠ l2 /\ b ≠ n /\ b ≠ a /\ (∃ bs, H b = some (.lst bs)) /\ ∃ bs, H' b = some (.lst bs))) -> D.nx σ' H') :
  tFor (mX0 K (atS K 2 2)) (bZ0 6) (ij0 (tBM K "list" fX0 (atS K 6 4) (dF0 (tVar 5) tNil))) D σ H := by
 refine ⟨_, s2, .inl ⟨a, _, 2, .ref l2, rfl, rfl, SqL.of ha, rfl, ?_⟩⟩
 refine ⟨l2, rfl, ⟨cs, SqL.of hc⟩, ?_⟩
 refine ⟨fun i m σ' H' => m = cs.length - i /\ i <= cs.length /\ (∀ i, i ≠ 6 -> σ'[i]? = σ[i]?) /\ σ'.length = σ.length /\ (∀ b, H' b = H b \/ (M b /\ b ≠ l2 /\ b ≠ n /\ b ≠ a /\ (∃ bs, H b = some (.lst bs)) /\ ∃ bs : List V, H' b = some (.lst bs) /\ bs.length <= 1000 + 10 * i)),
  ⟨_, rfl, Nat.zero_le _, fun _ _ => rfl, rfl, fun b => .inl rfl⟩, ?_⟩
 rintro i m σ1 H1 ⟨rfl, hi, hσ, hσl, hH⟩
 have keep : ∀ b o, H b = some o -> (∀ bs, o ≠ .lst bs) -> H1 b = some o := fun b o e ne => by
  rcases hH b with z | ⟨_, _, _, _, ⟨bs, z⟩, _⟩
  ·rw [z]; exact e
  ·rw [e] at z; exact absurd (Option.some.inj z) (ne bs)
 have hc1 : H1 l2 = some (.lst cs) := by
  rcases hH l2 with z | ⟨_, z, _⟩
  ·rw [z]; exact hc
  ·exact absurd rfl z
 have hn1 : H1 n = some (.lst ns) := by
  rcases hH n with z | ⟨_, _, z, _⟩
  ·rw [z]; exact hn
  ·exact absurd rfl z
 by_cases hlt : i < cs.length
 ·refine .inr ⟨⟨cs, cs[i], SqL.of hc1, List.getElem?_eq_getElem hlt⟩, fun σ2 H2 => i + 1 <= cs.length /\ (∀ i, i ≠ 6 -> σ2[i]? = σ[i]?) /\ σ2.length = σ.length /\ (∀ b, H2 b = H b \/ (M b /\ b ≠ l2 /\ b ≠ n /\ b ≠ a /\ (∃ bs, H b = some (.lst bs)) /\ ∃ bs : List V, H2 b = some (.lst bs) /\ bs.length <= 1000 + 10 * (i + 1))), fun σ2 H2 h => ⟨cs.length - (i + 1), by omega, rfl, h⟩, ?_⟩
  rintro x H2 ⟨rfl, hx⟩
  have hx := hx cs (SqL.of hc1)
  obtain ⟨c, y0, y1, y2, y3, b, bs, rfl, ec, eb, kb, mb, n1, n2, n3⟩ := hcs i x hx
  have ec1 := keep c _ ec fun bs z => by cases z
  obtain ⟨bs1, eb1, kb1⟩ : ∃ bs1 : List V, H2 b = some (.lst bs1) /\ bs1.length <= 1000 + 10 * i := by
   rcases hH b with z | ⟨_, _, _, _, _, bs1, z, kz⟩
   ·exact ⟨bs, by rw [z]; exact eb, by omega⟩
   ·exact ⟨bs1, z, kz⟩
  have s6 : (σ1.set 6 (some (.ref c)))[6]? = some (some (.ref c)) := List.getElem?_set_self (by rw [hσl]; exact hl)
  have s5' : (σ1.set 6 (some (.ref c)))[5]? = some (some (.ref n)) := by rw [List.getElem?_set_ne (by decide), hσ 5 (by decide)]; exact s5
  refine ⟨_, s6, .inr (.inl ⟨c, _, 4, .ref b, rfl, rfl, SqT.of ec1, rfl, ?_⟩)⟩
  refine ⟨.inl ⟨rfl, _, SqL.of eb1⟩, _, s5', ?_⟩
  have kbig : bs1.length + ns.length <= sizeLine := cN0 (by unfold big; omega)
  refine ⟨b, n, bs1, ns, rfl, rfl, eb1, hn1, kbig, ?_⟩
  refine ⟨hlt, fun j hj => by rw [List.getElem?_set_ne (Ne.symm hj)]; exact hσ j hj, by rw [List.length_set]; exact hσl, fun b' => ?_⟩
  by_cases hb : b' = b
  ·subst hb
   exact .inr ⟨mb, n1, n2, n3, ⟨bs, eb⟩, _, aq0, by rw [List.length_append]; omega⟩
  ·rw [an0 hb]
   rcases hH b' with z | ⟨z1, z2, z3, z4, z5, bs2, z6, z7⟩
   ·exact .inl z
   ·exact .inr ⟨z1, z2, z3, z4, z5, bs2, z6, by omega⟩
 ·refine .inl ⟨⟨cs, SqL.of hc1, by omega⟩, post σ1 H1 hσ hσl fun b => ?_⟩
  rcases hH b with z | ⟨z1, z2, z3, z4, z5, bs2, z6, z7⟩
  ·exact .inl z
  ·exact .inr ⟨z1, z2, z3, z4, z5, bs2, z6⟩
end L2.BD
set_option Elab.async false
set_option linter.all false
set_option maxRecDepth 100000
set_option maxHeartbeats 4000000
namespace L2.BD
open PySem PySem.Spec PyProof.Rows
abbrev exS (t : Fx -> TS) : TS := fun D σ H => ∃ Y, t Y D σ H
theorem ej0 {X : Cx} {st : Stmt} {t : Fx -> TS} (h : ∀ Y, PS X st (t Y)) : PS X st (exS t) := fun pins s σ H D I ⟨Y, q⟩ => h Y pins s σ H D I q
abbrev tClr (K : PySem.W.Frag) (j : Int) : TS := ij0 (tBM0 K "list" mB0 (atS K 2 j))
abbrev tDClr (K : PySem.W.Frag) (H₀ : Hp) : TS := fun D σ H => ∃ a o kvs, H a = some (.frz o (.dK kvs)) /\ H₀ a = none /\ ij0 (tBM0 K "dict" jx0 (atS K 2 3)) D σ (upd H a (.dK kvs))
abbrev pj0 (K : PySem.W.Frag) : TS := tFor (mX0 K (atS K 2 2)) (bZ0 6) (ij0 (tBM K "list" fX0 (atS K 6 4) (dF0 (tVar 5) tNil)))
abbrev tApp (K : PySem.W.Frag) : TS := ij0 (tBM K "list" kV0 (atS K 4 1) (dF0 (tC (.str "none")) tNil))
abbrev w1 (v0 v1 v2 : V) (scr plot ht : T) : List (Option (V × T)) := [some (v0, scr), some (v1, plot), some (v2, ht), none, none, none, none, none, none, none, none]
abbrev w2 (v0 v1 v2 v3 : V) (scr plot ht gar : T) : List (Option (V × T)) := [some (v0, scr), some (v1, plot), some (v2, ht), some (v3, gar), none, none, none, none, none, none, none]
abbrev w3 (v0 v1 v2 v3 v4 : V) (scr plot ht gar due : T) : List (Option (V × T)) := [some (v0, scr), some (v1, plot), some (v2, ht), some (v3, gar), some (v4, due), none, none, none, none, none, none]
abbrev w4 (v0 v1 v3 v4 : V) (scr plot gar due : T) : List (Option (V × T)) := [some (v0, scr), some (v1, plot), none, some (v3, gar), some (v4, due), none, none, none, none, none, none]
structure Law1 (g1 g3 g4 g11 g12 g13 g14 g16 g17 g18 : En -> Option Fl) (gsN : List T -> Option T) (f5a f5b f6 : En -> Option T) (ts : List T) : Prop where
 ex : ∃ scr plot us top cs ws gar rows rows' ns, ts = [scr] /\
  g1 [.sh scr, .un, .un, .un, .un, .un, .un, .un, .un, .un, .un] = some (.nx [.sh scr, .sh plot, .un, .un, .un, .un, .un, .un, .un, .un, .un]) /\
  gsN [plot] = some (.lst [.lst us, top, .lst cs, .dct ws]) /\ cs.length <= 10 /\
  (∀ c ∈ cs, ∃ y0 y1 y2 y3 bs, c = .tup [y0, y1, y2, y3, .lst (List.map T.str bs)] /\ bs.length <= 1000) /\
  LF gar /\ rows.all cM0 = true /\ rows'.all cM0 = true /\ rows'.length < big /\ ns.length <= 10 /\
  (∀ v0 v1 v2, g3 (fixO (w1 v0 v1 v2 scr plot (.lst [.lst us, top, .lst cs, .dct ws]))) = some (.nx ((fixO (w1 v0 v1 v2 scr plot (.lst [.lst us, top, .lst cs, .dct ws]))).set 3 (.sh gar)))) /\
  (∀ v0 v1 v2 v3, g4 (fixO (w2 v0 v1 v2 v3 scr plot (.lst [.lst us, top, .lst cs, .dct ws]) gar)) = some (.nx (fixO (w2 v0 v1 v2 v3 scr plot (.lst [.lst us, top, .lst cs, .dct ws]) gar))) /\
   f5a (fixO (w2 v0 v1 v2 v3 scr plot (.lst [.lst us, top, .lst cs, .dct ws]) gar)) = some (.lst rows) /\ f5b (fixO (w2 v0 v1 v2 v3 scr plot (.lst [.lst us, top, .lst cs, .dct ws]) gar)) = some (.lst rows')) /\
  (∀ v0 v1 v2 v3 v4, f6 (fixO (w3 v0 v1 v2 v3 v4 scr plot (.lst [.lst us, top, .lst cs, .dct ws]) gar (.lst [.lst rows, .lst rows']))) = some (.lst ns)) /\
  (∀ v0 v1 v3 v4, ∃ pl fd, g11 (fixO (w4 v0 v1 v3 v4 scr plot gar (.lst [.lst rows, .lst rows']))) = some (.nx (fixO (w4 v0 v1 v3 v4 scr plot gar (.lst [.lst rows, .lst rows'])))) /\
   g12 (fixO (w4 v0 v1 v3 v4 scr plot gar (.lst [.lst rows, .lst rows']))) = some (.nx ((fixO (w4 v0 v1 v3 v4 scr plot gar (.lst [.lst rows, .lst rows']))).set 7 (.sh pl))) /\
   g13 ((fixO (w4 v0 v1 v3 v4 scr plot gar (.lst [.lst rows, .lst rows']))).set 7 (.sh pl)) = some (.nx (((fixO (w4 v0 v1 v3 v4 scr plot gar (.lst [.lst rows, .lst rows']))).set 7 (.sh pl)).set 8 (.sh fd))) /\
   g14 (((fixO (w4 v0 v1 v3 v4 scr plot gar (.lst [.lst rows, .lst rows']))).set 7 (.sh pl)).set 8 (.sh fd)) = some (.nx (((fixO (w4 v0 v1 v3 v4 scr plot gar (.lst [.lst rows, .lst rows']))).set 7 (.sh pl)).set 8 (.sh fd)))) /\
  (∀ v0 v1 v3 v4, ∃ ε2 ε3, g16 (fixO (w4 v0 v1 v3 v4 scr plot gar (.lst [.lst rows, .lst (rows' ++ [.str "none"])]))) = some (.nx ε2) /\ g17 ε2 = some (.nx ε3) /\ g18 ε3 = some (.rt false (.bl true)))
section
variable {P : Program} {w : World} {K : PySem.W.Frag} {mg : Str -> Option Value} {base : Heap}
theorem nM0 {x qual : Str} {st : Stmt} {f : Addr} {fd : FuncData} {N ps : List Str} {k : Nat} {gs : List T -> Option (Bool × T)} {g1 g3 g4 g11 g12 g13 g14 g16 g17 g18 : En -> Option Fl} {gsN : List T -> Option T} {f5a f5b fe6 : En -> Option T} {it6 : En -> Option (List T)}
  (Fn : Fun K x qual st f fd) (S : FnScope N ps (af0 st)) (hN : N.length = 11) (hps : ps.length = 1)
  (hg : ∀ ts r, gs ts = some r -> r = (false, .bl true) /\ Law1 g1 g3 g4 g11 g12 g13 g14 g16 g17 g18 gsN f5a f5b (aN0 1 it6 (am0 0) be0 fe6) ts)
  (hbody : ∀ (cdv : Value) (A : Around) (outer : List Env) (s : Shared) (H : Hp) (E : XK), Room k (A.deeper (envOfC qual (af0 st) s.heap.objs.size f cdv)) ->
   PSs ((cxOf CX0 P w K mg base N qual (af0 st) f cdv A outer s H E).nox) (bt0 st)
    (tSeq (exS fun Y => TrS Y g1) (tSeq (tAsg (jz0 (spN gsN) [] E0 (dF0 (tVar 1) tNil)) (bZ0 2)) (tSeq (exS fun Y => TrS Y g3) (tSeq (exS fun Y => TrS Y g4)
    (tSeq (tAsg (tLst (dF0 (exT fun Y => TrF Y f5a) (dF0 (exT fun Y => TrF Y f5b) tNil))) (bZ0 4))
    (tSeq (exS fun Y => tAsg (ii0 1 (TrI Y it6) (bZ0 0) (TrT Y be0) (Tr Y fe6)) (bZ0 5))
    (tSeq (pj0 K) (tSeq (tClr K 0) (tSeq (tClr K 2) (tSeq (tDClr K H)
    (tSeq (exS fun Y => TrS Y g11) (tSeq (exS fun Y => TrS Y g12) (tSeq (exS fun Y => TrS Y g13) (tSeq (exS fun Y => TrS Y g14)
    (tSeq (tApp K) (tSeq (exS fun Y => TrS Y g16) (tSeq (exS fun Y => TrS Y g17) (exS fun Y => TrS Y g18))))))))))))))))))) : FnOk P w K mg base CX0 (k + 1) f fd ps (spP gs) := by
 refine Fn.ok S (fun vs H Q E h => ?_) fun cdv A outer s H vs Q E hr h => ?_
 ·obtain ⟨F, ts, o, t, _, r, e, _⟩ := h
  obtain ⟨_, ⟨scr, _, _, _, _, _, _, _, _, _, ets, _⟩⟩ := hg ts _ e
  rw [r.length, hps, ets]
  rfl
 obtain ⟨F, ts, o, t, tk, r, e, q⟩ := h
 obtain ⟨er, ⟨scr, plot, us, top, cs, ws, gar, rows, rows', ns, ets, e1, eN, kc, hcs, lf, p1, p2, kr, kn, e3, e45, e6, e11, e16⟩⟩ := hg ts _ e
 subst ets
 cases er
 cases r with
 | @cons v0 _ vs1 _ r0 r =>
 cases r
 have rr : Rps F H [v0] [scr] := .cons r0 .nil
 have est : start N [v0] = [some v0, none, none, none, none, none, none, none, none, none, none] := by
  unfold start
  rw [hN]
  rfl
 have eit : ce0 N [scr] = [.sh scr, .un, .un, .un, .un, .un, .un, .un, .un, .un, .un] := by
  unfold ce0
  rw [hN]
  rfl
 refine ⟨_, hbody cdv A outer s H E hr, ?_⟩
 rw [est]
 have rl := dg0 (N := N) tk rr
 rw [est, eit] at rl
 -- plot
 refine ⟨_, F, _, _, rl, e1, fun F1 σ1 H1 k1 rl1 => ?_⟩
 obtain ⟨v0', s10, r10⟩ := rl1.sh 0 scr rfl
 obtain ⟨v1, s11, r11⟩ := rl1.sh 1 plot rfl
 have len1 : σ1.length = 11 := by rw [<- rl1.len]; rfl
 have ext01 : ∀ b o, H b = some o -> H1 b = some o := rl1.same
 have new1 : ∀ b, F1 b -> F b \/ H b = none := rl1.new
 -- handed
 refine ⟨v1, s11, ?_⟩
 refine ⟨F1, [plot], _, rl1.trk, .cons r11 .nil, eN, fun F2 a H2 m2 hna nfa rpa => ?_⟩
 obtain ⟨xs, ha2, rxs⟩ : ∃ xs, H2 a = some (.lst xs) /\ Rps (NW ⟨H1, F1, fun _ => True, fun _ _ => False⟩ F2) H2 xs [.lst us, top, .lst cs, .dct ws] := by
  cases rpa with
  | lst h r => exact ⟨_, h, r⟩
 cases rxs with
 | @cons x0 _ xs1 _ rx0 rxs =>
 cases rxs with
 | @cons x1 _ xs2 _ rx1 rxs =>
 cases rxs with
 | @cons x2 _ xs3 _ rx2 rxs =>
 cases rxs with
 | @cons x3 _ xs4 _ rx3 rxs =>
 cases rxs
 cases rx0 with
 | @lst l0 so _ f0 h0 rso =>
 cases rx2 with
 | @lst l2 csv _ f2 h2 rcs =>
 cases rx3 with
 | @dct l3 ob kvs _ f3 h3 rks =>
 have m2' := m2.freeze hna ⟨_, ha2⟩
 have wk : Keep (NW ⟨H1, F1, fun _ => True, fun _ _ => False⟩ F2) H2 (fun b => F2 b \/ b = a) H2 := ⟨fun b z => .inl z.1, fun _ _ _ z => z, fun _ _ z => z⟩
 have rha : Rp (fun b => F2 b \/ b = a) H2 (.ref a) (.lst [.lst us, top, .lst cs, .dct ws]) := .lst (.inr rfl) ha2 (.cons ((Rp.lst f0 h0 rso).keep wk) (.cons (rx1.keep wk) (.cons ((Rp.lst f2 h2 rcs).keep wk) (.cons ((Rp.dct f3 h3 rks).keep wk) .nil))))
 -- garden
 have rel3 : Rel ⟨H2, fun b => F2 b \/ b = a, fun _ => True, fun _ _ => False⟩ (fun b => F2 b \/ b = a) (fixO (w1 v0' v1 (.ref a) scr plot (.lst [.lst us, top, .lst cs, .dct ws]))) (σ1.set 2 (some (.ref a))) H2 := cV0 m2'.trk (by rw [List.length_set, len1]; rfl) fun i p hp => by
  match i, hp with
  | 0, hp => cases hp; exact ⟨by rw [List.getElem?_set_ne (by decide)]; exact s10, r10.keep m2'.keep⟩
  | 1, hp => cases hp; exact ⟨by rw [List.getElem?_set_ne (by decide)]; exact s11, r11.keep m2'.keep⟩
  | 2, hp => cases hp; exact ⟨by rw [List.getElem?_set_self (by rw [len1]; decide)], rha⟩
  | 3, hp | 4, hp | 5, hp | 6, hp | 7, hp | 8, hp | 9, hp | 10, hp => cases hp
  | i + 11, hp => simp at hp
 refine ⟨_, _, _, _, rel3, e3 v0' v1 (.ref a), fun F3 σ3 H3 k3 rl3 => ?_⟩
 obtain ⟨s30, r30⟩ := rl3.fx 0 v0' scr rfl
 obtain ⟨s31, r31⟩ := rl3.fx 1 v1 plot rfl
 obtain ⟨s32, r32⟩ := rl3.fx 2 (.ref a) (.lst [.lst us, top, .lst cs, .dct ws]) rfl
 obtain ⟨v3, s33, r33⟩ := rl3.sh 3 gar rfl
 have len3 : σ3.length = 11 := by rw [<- rl3.len]; rfl
 have ext23 : ∀ b o, H2 b = some o -> H3 b = some o := rl3.same
 have new3 : ∀ b, F3 b -> (F2 b \/ b = a) \/ H2 b = none := rl3.new
 obtain ⟨e4, e5a, e5b⟩ := e45 v0' v1 (.ref a) v3
 have rel4 : Rel ⟨H3, F3, fun _ => True, fun _ _ => False⟩ F3 (fixO (w2 v0' v1 (.ref a) v3 scr plot (.lst [.lst us, top, .lst cs, .dct ws]) gar)) σ3 H3 := cV0 rl3.trk len3 fun i p hp => by
  match i, hp with
  | 0, hp => cases hp; exact ⟨s30, r30⟩
  | 1, hp => cases hp; exact ⟨s31, r31⟩
  | 2, hp => cases hp; exact ⟨s32, r32⟩
  | 3, hp => cases hp; exact ⟨s33, r33⟩
  | 4, hp | 5, hp | 6, hp | 7, hp | 8, hp | 9, hp | 10, hp => cases hp
  | i + 11, hp => simp at hp
 refine ⟨_, _, _, _, rel4, e4, fun F4 σ4 H4 k4 rl4 => ?_⟩
 have len4 : σ4.length = 11 := by rw [<- rl4.len]; rfl
 have ext34 : ∀ b o, H3 b = some o -> H4 b = some o := rl4.same
 have new4 : ∀ b, F4 b -> F3 b \/ H3 b = none := rl4.new
 -- due
 refine ⟨_, F4, _, _, rl4, e5a, fun F5 p H5 m5 hnp nfp rp5 => ?_⟩
 refine ⟨_, F5, _, _, rl4.mono m5, e5b, fun F6 qa H6 m6 hnq nfq rq6 => ?_⟩
 obtain ⟨xp, hp5, rsp⟩ : ∃ xs, H5 p = some (.lst xs) /\ Rps F5 H5 xs rows := by
  cases rp5 with
  | lst h r => exact ⟨_, h, r⟩
 obtain ⟨xq, hq6, rsq⟩ : ∃ xs, H6 qa = some (.lst xs) /\ Rps F6 H6 xs rows' := by
  cases rq6 with
  | lst h r => exact ⟨_, h, r⟩
 refine ⟨cN0 (show 2 <= big by decide), fun d hd => ?_⟩
 have hp6 := m6.ext p _ hp5
 have npq : p ≠ qa := fun z => by rw [z] at hp5; rw [hp5] at hnq; cases hnq
 have ndp : d ≠ p := fun z => by rw [z, hp6] at hd; cases hd
 have ndq : d ≠ qa := fun z => by rw [z, hq6] at hd; cases hd
 have hn4p : H4 p = none := hnp
 have hn4q : H4 qa = none := m5.free hnq
 have hn4d : H4 d = none := m5.free (m6.free hd)
 have ext47 : ∀ b o, H4 b = some o -> upd H6 d (.lst [.ref p, .ref qa]) b = some o := fun b o h => by
  rw [an0 (au0 h hn4d)]
  exact m6.ext b o (m5.ext b o h)
 have sub46 : ∀ b, F4 b -> F6 b := fun b h => m6.sub b (m5.sub b h)
 have new6 : ∀ b, F6 b -> F4 b \/ H4 b = none := fun b h => (m6.new b h).elim (m5.new b) fun z => .inr (m5.free z)
 have hdd : upd H6 d (.lst [.ref p, .ref qa]) d = some (.lst [.ref p, .ref qa]) := aq0
 have hdp : upd H6 d (.lst [.ref p, .ref qa]) p = some (.lst xp) := by rw [an0 (Ne.symm ndp)]; exact hp6
 have hdq : upd H6 d (.lst [.ref p, .ref qa]) qa = some (.lst xq) := by rw [an0 (Ne.symm ndq)]; exact hq6
 have tk7 : Trk (fun b => F6 b \/ b = p \/ b = qa \/ b = d) (upd H6 d (.lst [.ref p, .ref qa])) := fun b h => by
  rcases h with h | h | h | h
  ·obtain ⟨o, z⟩ := m6.trk b h
   exact ⟨o, by rw [an0 (fun w => by rw [w, hd] at z; cases z)]; exact z⟩
  ·subst h; exact ⟨_, hdp⟩
  ·subst h; exact ⟨_, hdq⟩
  ·subst h; exact ⟨_, hdd⟩
 have kp47 : Keep F4 H4 (fun b => F6 b \/ b = p \/ b = qa \/ b = d) (upd H6 d (.lst [.ref p, .ref qa])) := ⟨fun b h => .inl (sub46 b h), fun b o _ h => ext47 b o h, fun b xs h => ext47 b _ h⟩
 have kp67 : ∀ {G : Addr -> Prop}, Keep G H6 G (upd H6 d (.lst [.ref p, .ref qa])) := fun {G} => ⟨fun _ h => h, fun b o _ h => by rw [an0 (au0 h hd)]; exact h, fun b xs h => by rw [an0 (au0 h hd)]; exact h⟩
 -- the rows stand on nothing that can be frozen
 have rowsP : ∀ {G : Addr -> Prop}, Rps G H6 xp rows := fun {G} => (rsp.plainG (G := F5) p1).keep m6.keep |>.plainG p1
 have rowsQ : ∀ {G : Addr -> Prop}, Rps G H6 xq rows' := fun {G} => rsq.plainG p2
 obtain ⟨s40, r40⟩ := rl4.fx 0 v0' scr rfl
 obtain ⟨s41, r41⟩ := rl4.fx 1 v1 plot rfl
 obtain ⟨s42, r42⟩ := rl4.fx 2 (.ref a) (.lst [.lst us, top, .lst cs, .dct ws]) rfl
 obtain ⟨s43, r43⟩ := rl4.fx 3 v3 gar rfl
 have rel7 : Rel ⟨upd H6 d (.lst [.ref p, .ref qa]), fun b => F6 b \/ b = p \/ b = qa \/ b = d, fun _ => True, fun _ _ => False⟩ (fun b => F6 b \/ b = p \/ b = qa \/ b = d) (fixO (w3 v0' v1 (.ref a) v3 (.ref d) scr plot (.lst [.lst us, top, .lst cs, .dct ws]) gar (.lst [.lst rows, .lst rows']))) (σ4.set 4 (some (.ref d))) (upd H6 d (.lst [.ref p, .ref qa])) := cV0 tk7 (by rw [List.length_set, len4]; rfl) fun i pp hp => by
  match i, hp with
  | 0, hp => cases hp; exact ⟨by rw [List.getElem?_set_ne (by decide)]; exact s40, r40.keep kp47⟩
  | 1, hp => cases hp; exact ⟨by rw [List.getElem?_set_ne (by decide)]; exact s41, r41.keep kp47⟩
  | 2, hp => cases hp; exact ⟨by rw [List.getElem?_set_ne (by decide)]; exact s42, r42.keep kp47⟩
  | 3, hp => cases hp; exact ⟨by rw [List.getElem?_set_ne (by decide)]; exact s43, r43.keep kp47⟩
  | 4, hp => cases hp; exact ⟨by rw [List.getElem?_set_self (by rw [len4]; decide)], .lst (.inr (.inr (.inr rfl))) hdd (.cons (.lst (.inr (.inl rfl)) hdp (rowsP.keep kp67)) (.cons (.lst (.inr (.inr (.inl rfl))) hdq (rowsQ.keep kp67)) .nil))⟩
  | 5, hp | 6, hp | 7, hp | 8, hp | 9, hp | 10, hp => cases hp
  | i + 11, hp => simp at hp
 -- names
 refine ⟨_, go0 aV0 _ _ _ ⟨_, _, _, rel7, e6 v0' v1 (.ref a) v3 (.ref d), fun F8 n H8 m8 hnn nfn rn8 => ?_⟩⟩
 obtain ⟨nv, hn8, rns⟩ : ∃ xs, H8 n = some (.lst xs) /\ Rps F8 H8 xs ns := by
  cases rn8 with
  | lst h r => exact ⟨_, h, r⟩
 have rl8 := rel7.mono m8
 obtain ⟨s80, r80⟩ := rl8.fx 0 v0' scr rfl
 obtain ⟨s81, r81⟩ := rl8.fx 1 v1 plot rfl
 obtain ⟨s82, r82⟩ := rl8.fx 2 (.ref a) (.lst [.lst us, top, .lst cs, .dct ws]) rfl
 obtain ⟨s83, r83⟩ := rl8.fx 3 v3 gar rfl
 obtain ⟨s84, r84⟩ := rl8.fx 4 (.ref d) (.lst [.lst rows, .lst rows']) rfl
 have ext28 : ∀ b o, H2 b = some o -> H8 b = some o := fun b o h => m8.ext b o (ext47 b o (ext34 b o (ext23 b o h)))
 have ext27 : ∀ b o, H2 b = some o -> upd H6 d (.lst [.ref p, .ref qa]) b = some o := fun b o h => ext47 b o (ext34 b o (ext23 b o h))
 have ext18 : ∀ b o, H1 b = some o -> H8 b = some o := fun b o h => ext28 b o (m2.ext b o h)
 have len8 : (σ4.set 4 (some (.ref d))).length = 11 := by rw [List.length_set, len4]
 have h8a := ext28 a _ ha2
 -- the loop
 refine lL0 (M := NW ⟨H1, F1, fun _ => True, fun _ _ => False⟩ F2) (a := a) (l2 := l2) (n := n) (cs := csv) (ns := nv) (by rw [List.getElem?_set_ne (by decide)]; exact s82) (by rw [List.getElem?_set_self (by rw [len8]; decide)]) (by rw [List.length_set, len8]; decide) h8a (ext28 l2 _ h2) hn8 (by rw [rns.length]; exact kn) (by rw [rcs.length]; exact kc) (fun i y ey => ?_) fun σ9 H9 hσ len9 hH => ?_
 ·obtain ⟨t, et, rt⟩ := rcs.get' ey
  obtain ⟨y0, y1, y2, y3, bs, ec, kb⟩ := hcs t (List.mem_of_getElem? et)
  subst ec
  cases rt with
  | @tup c zs _ hc rz =>
  cases rz with
  | @cons z0 _ _ _ _ rz =>
  cases rz with
  | @cons z1 _ _ _ _ rz =>
  cases rz with
  | @cons z2 _ _ _ _ rz =>
  cases rz with
  | @cons z3 _ _ _ _ rz =>
  cases rz with
  | @cons z4 _ _ _ r4 rz =>
  cases rz
  cases r4 with
  | @lst b bv _ fb hb rb =>
  refine ⟨c, z0, z1, z2, z3, b, bv, rfl, ext28 c _ hc, ext28 b _ hb, by rw [rb.length, List.length_map]; exact kb, fb, fun z => ?_, fun z => ?_, fun z => ?_⟩
  ·rw [z, h2] at hb
   cases hb
   obtain ⟨u, eu, ru⟩ := rb.get' ey
   rw [List.getElem?_map] at eu
   cases q4 : bs[i]? with
   | none => rw [q4] at eu; cases eu
   | some x4 =>
    rw [q4] at eu
    cases eu
    cases ru
  ·rw [z] at hb
   rw [ext27 n _ hb] at hnn
   cases hnn
  ·rw [z] at fb
   exact nfa fb.1
 have s92 : σ9[2]? = some (some (.ref a)) := by rw [hσ 2 (by decide), List.getElem?_set_ne (by decide)]; exact s82
 have len9' : σ9.length = 11 := by rw [len9, List.length_set, len8]
 have h9a : H9 a = some (.lst [.ref l0, x1, .ref l2, .ref l3]) := by
  rcases hH a with z | ⟨z, _⟩
  ·rw [z]; exact h8a
  ·exact absurd z.1 nfa
 have lst9 : ∀ b xs, H8 b = some (.lst xs) -> ∃ ys, H9 b = some (.lst ys) := fun b xs h => by
  rcases hH b with z | ⟨_, _, _, _, _, z⟩
  ·exact ⟨xs, by rw [z]; exact h⟩
  ·exact z
 have na0 : a ≠ l0 := fun z => nfa (z ▸ f0.1)
 have na2 : a ≠ l2 := fun z => nfa (z ▸ f2.1)
 have na3 : a ≠ l3 := fun z => nfa (z ▸ f3.1)
 have n30 : l3 ≠ l0 := fun z => by rw [z, h0] at h3; cases h3
 have n32 : l3 ≠ l2 := fun z => by rw [z, h2] at h3; cases h3
 -- handed[0].clear()
 obtain ⟨y0, h90⟩ := lst9 l0 _ (ext28 l0 _ h0)
 refine ⟨_, s92, .inl ⟨a, _, 0, .ref l0, rfl, rfl, SqL.of h9a, rfl, .inl ⟨rfl, _, SqL.of h90⟩, l0, y0, rfl, rfl, h90, ?_⟩⟩
 have h10a : upd H9 l0 (.lst []) a = some (.lst [.ref l0, x1, .ref l2, .ref l3]) := by rw [an0 na0]; exact h9a
 obtain ⟨y2, h102⟩ : ∃ ys, upd H9 l0 (.lst []) l2 = some (.lst ys) := by
  by_cases z : l2 = l0
  ·exact ⟨_, by rw [z]; exact aq0⟩
  ·obtain ⟨ys, h⟩ := lst9 l2 _ (ext28 l2 _ h2)
   exact ⟨ys, by rw [an0 z]; exact h⟩
 refine ⟨_, s92, .inl ⟨a, _, 2, .ref l2, rfl, rfl, SqL.of h10a, rfl, .inl ⟨rfl, _, SqL.of h102⟩, l2, y2, rfl, rfl, h102, ?_⟩⟩
 have h11a : upd (upd H9 l0 (.lst [])) l2 (.lst []) a = some (.lst [.ref l0, x1, .ref l2, .ref l3]) := by rw [an0 na2]; exact h10a
 have h113 : upd (upd H9 l0 (.lst [])) l2 (.lst []) l3 = some (.frz ob (.dK kvs)) := by
  rw [an0 n32, an0 n30]
  rcases hH l3 with z | ⟨_, _, _, _, ⟨bs, z⟩, _⟩
  ·rw [z]; exact ext28 l3 _ h3
  ·rw [ext28 l3 _ h3] at z; cases z
 have hX3 : H l3 = none := by
  cases z : H l3 with
  | none => rfl
  | some o => exact absurd ((show H1 l3 = none from f3.2).symm.trans (ext01 l3 o z)) (fun y => nomatch y)
 refine ⟨l3, ob, kvs, h113, hX3, ?_⟩
 have h12a : upd (upd (upd H9 l0 (.lst [])) l2 (.lst [])) l3 (.dK kvs) a = some (.lst [.ref l0, x1, .ref l2, .ref l3]) := by rw [an0 na3]; exact h11a
 refine ⟨_, s92, .inl ⟨a, _, 3, .ref l3, rfl, rfl, SqL.of h12a, rfl, .inr (.inr (.inl ⟨rfl, .inl ⟨kvs, aq0⟩⟩)), l3, kvs, rfl, rfl, aq0, ?_⟩⟩
 generalize hHd : upd (upd (upd (upd H9 l0 (.lst [])) l2 (.lst [])) l3 (.dK kvs)) l3 (.dK []) = Hd
 have chg : ∀ b, Hd b = H8 b \/ (NW ⟨H1, F1, fun _ => True, fun _ _ => False⟩ F2 b /\ ((∃ xs, H8 b = some (.lst xs)) \/ ∃ o u, H8 b = some (.frz o u)) /\ ∃ o, Hd b = some o) := fun b => by
  rw [<- hHd]
  by_cases z3 : b = l3
  ·subst z3
   exact .inr ⟨f3, .inr ⟨_, _, ext28 _ _ h3⟩, _, aq0⟩
  ·rw [an0 z3, an0 z3]
   by_cases z2 : b = l2
   ·subst z2
    exact .inr ⟨f2, .inl ⟨_, ext28 _ _ h2⟩, _, aq0⟩
   ·rw [an0 z2]
    by_cases z0 : b = l0
    ·subst z0
     exact .inr ⟨f0, .inl ⟨_, ext28 _ _ h0⟩, _, aq0⟩
    ·rw [an0 z0]
     rcases hH b with z | ⟨z1, _, _, _, z5, bs, z6⟩
     ·exact .inl z
     ·exact .inr ⟨z1, .inl z5, _, z6⟩
 clear hHd
 have same1 : ∀ b o, H1 b = some o -> Hd b = some o := fun b o h => by
  rcases chg b with z | ⟨z, _⟩
  ·rw [z]; exact ext18 b o h
  ·exact absurd ((show H1 b = none from z.2).symm.trans h) (fun y => nomatch y)
 have same8 : ∀ b o, H8 b = some o -> (∀ xs, o ≠ .lst xs) -> (∀ z u, o ≠ .frz z u) -> Hd b = some o := fun b o h n1 n2 => by
  rcases chg b with z | ⟨_, z | z, _⟩
  ·rw [z]; exact h
  ·obtain ⟨xs, z⟩ := z; rw [h] at z; exact absurd (Option.some.inj z) (n1 xs)
  ·obtain ⟨x, u, z⟩ := z; rw [h] at z; exact absurd (Option.some.inj z) (n2 x u)
 have fresh8 : ∀ b o, H2 b = none -> H8 b = some o -> Hd b = some o := fun b o hn h => by
  rcases chg b with z | ⟨z, _⟩
  ·rw [z]; exact h
  ·obtain ⟨o', z'⟩ := m2.trk b z.1; rw [z'] at hn; cases hn
 have fr42 : ∀ b, H4 b = none -> H2 b = none := fun b h => by
  cases z : H2 b with
  | none => rfl
  | some o => rw [ext34 b o (ext23 b o z)] at h; cases h
 have hDd := fresh8 d _ (fr42 d hn4d) (m8.ext d _ hdd)
 have hDp := fresh8 p _ (fr42 p hn4p) (m8.ext p _ hdp)
 have hDq := fresh8 qa _ (fr42 qa hn4q) (m8.ext qa _ hdq)
 -- what is known from now on
 generalize hFd : (fun b => F1 b \/ OIns F8 H8 b \/ b = d \/ b = p \/ b = qa) = Fd
 have sub1 : ∀ b, F1 b -> Fd b := fun b h => by rw [<- hFd]; exact .inl h
 have kd1 : Keep F1 H1 Fd Hd := ⟨sub1, fun b o _ h => same1 b o h, fun b xs h => same1 b _ h⟩
 have kdO : Keep (OIns F8 H8) H8 Fd Hd := ⟨fun b h => by rw [<- hFd]; exact .inr (.inl h), fun b o h e => by
  obtain ⟨_, C, dx, fs, z⟩ := h
  rw [z] at e
  cases e
  exact same8 b _ z (fun xs w => by cases w) (fun x u w => by cases w), fun b xs h => same8 b _ h (fun xs w => by cases w) (fun x u w => by cases w)⟩
 have kdT : ∀ {G : Addr -> Prop}, Keep (fun _ => False) H8 G Hd := fun {G} => ⟨fun _ h => h.elim, fun _ _ h => h.elim, fun b xs h => same8 b _ h (fun xs w => by cases w) (fun x u w => by cases w)⟩
 have rowsPd : ∀ {G : Addr -> Prop}, Rps G Hd xp rows := fun {G} => (((rowsP (G := fun _ => False)).keep kp67).keep ⟨fun _ h => h, fun _ _ h => h.elim, fun b xs h => m8.ext b _ h⟩).keep kdT
 have rowsQd : ∀ {G : Addr -> Prop}, Rps G Hd xq rows' := fun {G} => (((rowsQ (G := fun _ => False)).keep kp67).keep ⟨fun _ h => h, fun _ _ h => h.elim, fun b xs h => m8.ext b _ h⟩).keep kdT
 have tkd : Trk Fd Hd := fun b h => by
  rw [<- hFd] at h
  rcases h with h | ⟨_, C, dx, fs, h⟩ | h | h | h
  ·obtain ⟨o, z⟩ := rl1.trk b h; exact ⟨o, same1 b o z⟩
  ·exact ⟨_, same8 b _ h (fun xs w => by cases w) (fun x u w => by cases w)⟩
  ·subst h; exact ⟨_, hDd⟩
  ·subst h; exact ⟨_, hDp⟩
  ·subst h; exact ⟨_, hDq⟩
 have rd0 := r10.keep kd1
 have rd1 := r11.keep kd1
 have rd3 := (LF.rp lf r83).keep kdO
 have inD : Fd d := by rw [<- hFd]; exact .inr (.inr (.inl rfl))
 have inP : Fd p := by rw [<- hFd]; exact .inr (.inr (.inr (.inl rfl)))
 have inQ : Fd qa := by rw [<- hFd]; exact .inr (.inr (.inr (.inr rfl)))
 have nwD : ∀ b, Fd b -> F b \/ H b = none := fun b h => by
  rw [<- hFd] at h
  have h10 : H1 b = none -> H b = none := fun z => by
   cases y : H b with
   | none => rfl
   | some o => rw [ext01 b o y] at z; cases z
  have h21 : H2 b = none -> H1 b = none := fun z => m2.free z
  have h42 : H4 b = none -> F b \/ H b = none := fun z => .inr (h10 (h21 (fr42 b z)))
  have hF4 : F4 b -> F b \/ H b = none := fun h => by
   rcases new4 b h with h | h
   ·rcases new3 b h with (h | h) | h
    ·rcases m2.new b h with h | h
     ·exact new1 b h
     ·exact .inr (h10 h)
    ·subst h; exact .inr (h10 hna)
    ·exact .inr (h10 (h21 h))
   ·refine .inr (h10 (h21 ?_))
    cases y : H2 b with
    | none => rfl
    | some o => rw [ext23 b o y] at h; cases h
  rcases h with h | ⟨h, _⟩ | h | h | h
  ·exact new1 b h
  ·rcases m8.new b h with (h | h | h | h) | h
   ·exact (new6 b h).elim hF4 h42
   ·subst h; exact h42 hn4p
   ·subst h; exact h42 hn4q
   ·subst h; exact h42 hn4d
   ·refine h42 ?_
    cases y : H4 b with
    | none => rfl
    | some o => rw [ext47 b o y] at h; cases h
  ·subst h; exact h42 hn4d
  ·subst h; exact h42 hn4p
  ·subst h; exact h42 hn4q
 have s90 : σ9[0]? = some (some v0') := by rw [hσ 0 (by decide), List.getElem?_set_ne (by decide)]; exact s80
 have s91 : σ9[1]? = some (some v1) := by rw [hσ 1 (by decide), List.getElem?_set_ne (by decide)]; exact s81
 have s93 : σ9[3]? = some (some v3) := by rw [hσ 3 (by decide), List.getElem?_set_ne (by decide)]; exact s83
 have s94 : σ9[4]? = some (some (.ref d)) := by rw [hσ 4 (by decide), List.getElem?_set_ne (by decide)]; exact s84
 have rel11 : Rel ⟨Hd, Fd, fun _ => True, fun _ _ => False⟩ Fd (fixO (w4 v0' v1 v3 (.ref d) scr plot gar (.lst [.lst rows, .lst rows']))) σ9 Hd := cV0 tkd len9' fun i pp hp => by
  match i, hp with
  | 0, hp => cases hp; exact ⟨s90, rd0⟩
  | 1, hp => cases hp; exact ⟨s91, rd1⟩
  | 3, hp => cases hp; exact ⟨s93, rd3⟩
  | 4, hp => cases hp; exact ⟨s94, .lst inD hDd (.cons (.lst inP hDp rowsPd) (.cons (.lst inQ hDq rowsQd) .nil))⟩
  | 2, hp | 5, hp | 6, hp | 7, hp | 8, hp | 9, hp | 10, hp => cases hp
  | i + 11, hp => simp at hp
 obtain ⟨pl, fo, b11, b12, b13, b14⟩ := e11 v0' v1 v3 (.ref d)
 refine ⟨_, _, _, _, rel11, b11, fun F11 σ11 H11 k11 rl11 => ?_⟩
 refine ⟨_, _, _, _, rl11, b12, fun F12 σ12 H12 k12 rl12 => ?_⟩
 refine ⟨_, _, _, _, rl12, b13, fun F13 σ13 H13 k13 rl13 => ?_⟩
 refine ⟨_, _, _, _, rl13, b14, fun F14 σ14 H14 k14 rl14 => ?_⟩
 obtain ⟨s140, _⟩ := rl14.fx 0 v0' scr rfl
 obtain ⟨s141, _⟩ := rl14.fx 1 v1 plot rfl
 obtain ⟨s143, _⟩ := rl14.fx 3 v3 gar rfl
 obtain ⟨s144, _⟩ := rl14.fx 4 (.ref d) (.lst [.lst rows, .lst rows']) rfl
 have len14 : σ14.length = 11 := by rw [<- rl14.len]; rfl
 have h14 : ∀ b o, Hd b = some o -> H14 b = some o := rl14.same
 -- due[1].append("none")
 refine ⟨_, s144, .inl ⟨d, _, 1, .ref qa, rfl, rfl, SqL.of (h14 d _ hDd), rfl, .inl ⟨rfl, _, SqL.of (h14 qa _ hDq)⟩, qa, xq, .str "none", rfl, rfl, h14 qa _ hDq, fF0 (by rw [rsq.length]; exact kr), ?_⟩⟩
 have hq1 : H1 qa = none := m2.free (fr42 qa hn4q)
 have ok15 : ∀ b o, b ≠ qa -> Hd b = some o -> upd H14 qa (.lst (xq ++ [.str "none"])) b = some o := fun b o ne h => by rw [an0 ne]; exact h14 b o h
 have nq8 : ∀ b o, (∀ xs, o ≠ .lst xs) -> Hd b = some o -> b ≠ qa := fun b o n1 h z => by rw [z, hDq] at h; exact n1 _ (Option.some.inj h).symm
 have kd15 : Keep F1 H1 Fd (upd H14 qa (.lst (xq ++ [.str "none"]))) := ⟨sub1, fun b o _ h => ok15 b o (au0 h hq1) (same1 b o h), fun b xs h => ok15 b _ (au0 h hq1) (same1 b _ h)⟩
 have kdT15 : ∀ {G : Addr -> Prop}, Keep (fun _ => False) Hd G (upd H14 qa (.lst (xq ++ [.str "none"]))) := fun {G} => ⟨fun _ h => h.elim, fun _ _ h => h.elim, fun b xs h => ok15 b _ (nq8 b _ (fun xs w => by cases w) h) h⟩
 have kdO15 : Keep (OIns F8 H8) H8 Fd (upd H14 qa (.lst (xq ++ [.str "none"]))) := ⟨kdO.sub, fun b o h e => by
  have e' := kdO.frz b o h e
  obtain ⟨_, C, dx, fs, z⟩ := h
  rw [z] at e
  cases e
  exact ok15 b _ (nq8 b _ (fun xs w => by cases w) e') e', fun b xs h => ok15 b _ (nq8 b _ (fun xs w => by cases w) (kdO.tup b xs h)) (kdO.tup b xs h)⟩
 have tk15 : Trk Fd (upd H14 qa (.lst (xq ++ [.str "none"]))) := fun b h => by
  by_cases z : b = qa
  ·exact ⟨_, by rw [z]; exact aq0⟩
  ·obtain ⟨o, y⟩ := tkd b h
   exact ⟨o, ok15 b o z y⟩
 have rel16 : Rel ⟨upd H14 qa (.lst (xq ++ [.str "none"])), Fd, fun _ => True, fun _ _ => False⟩ Fd (fixO (w4 v0' v1 v3 (.ref d) scr plot gar (.lst [.lst rows, .lst (rows' ++ [.str "none"])]))) σ14 (upd H14 qa (.lst (xq ++ [.str "none"]))) := cV0 tk15 len14 fun i pp hp => by
  match i, hp with
  | 0, hp => cases hp; exact ⟨s140, r10.keep kd15⟩
  | 1, hp => cases hp; exact ⟨s141, r11.keep kd15⟩
  | 3, hp => cases hp; exact ⟨s143, (LF.rp lf r83).keep kdO15⟩
  | 4, hp => cases hp; exact ⟨s144, .lst inD (ok15 d _ ndq hDd) (.cons (.lst inP (ok15 p _ npq hDp) ((rowsPd (G := fun _ => False)).keep kdT15)) (.cons (.lst inQ aq0 (((rowsQd (G := fun _ => False)).keep kdT15).append (.cons (.str _) .nil))) .nil))⟩
  | 2, hp | 5, hp | 6, hp | 7, hp | 8, hp | 9, hp | 10, hp => cases hp
  | i + 11, hp => simp at hp
 obtain ⟨ε2, ε3, b16, b17, b18⟩ := e16 v0' v1 v3 (.ref d)
 refine ⟨_, _, _, _, rel16, b16, fun F16 σ16 H16 k16 rl16 => ?_⟩
 refine ⟨_, _, _, _, rl16, b17, fun F17 σ17 H17 k17 rl17 => ?_⟩
 refine ⟨_, _, _, _, rl17, b18, fun F' v H' en rs' => ?_⟩
 have ext0 : ∀ b o, H b = some o -> upd H14 qa (.lst (xq ++ [.str "none"])) b = some o := fun b o h => ok15 b o (au0 (ext01 b o h) hq1) (same1 b o (ext01 b o h))
 refine q F' v H' ⟨fun b o h => en.same b o (ext0 b o h), fun b h => en.sub b (sub1 b (rl1.sub b h)), fun b h => ?_, en.trk⟩ rs'
 rcases en.new b h with z | z
 ·exact nwD b z
 ·refine .inr ?_
  cases y : H b with
  | none => rfl
  | some o =>
   have z : upd H14 qa (.lst (xq ++ [.str "none"])) b = none := z
   rw [ext0 b o y] at z
   cases z
end
end L2.BD
set_option Elab.async false
set_option linter.all false
set_option maxRecDepth 100000
set_option maxHeartbeats 4000000
namespace L2.BD
open PySem PySem.Spec PyProof.Rows
open Classical in
noncomputable def φNeS (s t : T) : Option T := if s = t /\ ∃ ts, s = .lst ts /\ ∀ u ∈ ts, iT0 u then some (.bl false) else none
theorem o_neS : Op2 (fun x y H Q => ∃ F ts, Rb F H x (.lst ts) /\ Rb F H y (.lst ts) /\ (∀ t ∈ ts, iT0 t) /\ Q (.bl false) H) φNeS := by
 intro F H x y s t u Q tk rx ry h k
 unfold φNeS at h
 split at h
 ·rename_i c
  obtain ⟨e, ts, e2, he⟩ := c
  cases h
  subst e
  subst e2
  exact ⟨F, ts, rx, ry, he, k F _ H (.refl tk) (.bl false)⟩
 ·cases h
section
variable {X : Cx} {Y : Fx} {a b : Expr} {pos : Pos} {f g : En -> Option T}
theorem op0 (hu : X.A.units + 20 < cLine) (ha : BE X Y a f) (hb : BE X Y b g) : QT X Y (.Compare a [.NotEq] [b] pos) (qB (e2 φNeS f g)) := ek0 (oQ0 hu) o_neS ha hb (ew0 _)
end
def cY0 (it : En -> Option (List T)) (fe f0 f1 f3 : En -> Option T) (ts : List T) : Option T := match ts with
 | [a] => match aN0 1 it (am0 0) be0 fe [.sh a, .un] with
  | some (.lst cs) => (f0 [.sh a, .sh (.lst cs)]).bind fun t0 => (f1 [.sh a, .sh (.lst cs)]).bind fun t1 => (f3 [.sh a, .sh (.lst cs)]).bind fun t3 => some (.lst [t0, t1, .lst cs, t3])
  | _ => none
 | _ => none
theorem gx0 {it : En -> Option (List T)} {fe f0 f1 f3 : En -> Option T} (ts : List T) (r : T) (h : cY0 it fe f0 f1 f3 ts = some r) : ∃ a cs t0 t1 t3, ts = [a] /\ aN0 1 it (am0 0) be0 fe [.sh a, .un] = some (.lst cs) /\ f0 [.sh a, .sh (.lst cs)] = some t0 /\ f1 [.sh a, .sh (.lst cs)] = some t1 /\ f3 [.sh a, .sh (.lst cs)] = some t3 /\ r = .lst [t0, t1, .lst cs, t3] := by
 unfold cY0 at h
 split at h
 ·rename_i a
  split at h
  ·rename_i cs e
   cases q0 : f0 [.sh a, .sh (.lst cs)] with
   | none => rw [q0] at h; cases h
   | some t0 =>
    cases q1 : f1 [.sh a, .sh (.lst cs)] with
    | none => rw [q0, q1] at h; cases h
    | some t1 =>
     cases q3 : f3 [.sh a, .sh (.lst cs)] with
     | none => rw [q0, q1, q3] at h; cases h
     | some t3 =>
      rw [q0, q1, q3] at h
      cases h
      exact ⟨a, cs, t0, t1, t3, rfl, e, q0, q1, q3, rfl⟩
  ·cases h
 ·cases h
def iJ0 (P : Program) (w : World) (K : PySem.W.Frag) (mg : Str -> Option Value) (base : Heap) (k : Nat) (x : Str) (ps : List Str) (gs : List T -> Option T) : Prop := ∃ f fd, FnOk P w K mg base CX0 k f fd ps (spN gs) /\ mg x = some (.ref f) /\ PySem.W.keepIn K (.ref f) = true /\ Binds K fd ps []
theorem nf0 {X : Cx} {k : Nat} {x : Str} {ps : List Str} {gs : List T -> Option T} {e : Expr} {es : List Expr} {t : TA} {p pos : Pos} (D : iJ0 X.prog X.w X.K X.mg X.base k x ps gs) (hr : Room k X.A) (hg : Gl X x) (ha : PA X (e :: es) t)
  (hdb : (x == ("__debug__" : Str)) = false := by decide) (he : starEach (e :: es) X.env = (false, eval e X.env) :: starEach es X.env := by rfl) (hpl : (backTo pos (starEach es X.env)).any (·.1) = false := by rfl) :
  PE X (.Call (.Name x p) (e :: es) [] pos) (jz0 (spN gs) [] E0 t) := by
 obtain ⟨f, fd, F, h1, h2, h3⟩ := D
 exact ga0 F hr hg h1 h2 h3 .nil gt0 ha hdb he hpl
end L2.BD
set_option Elab.async false
set_option linter.all false
set_option maxRecDepth 100000
set_option maxHeartbeats 4000000
namespace Bed1
open PySem PySem.Spec PyProof.Rows L2 L2.BD
seal PE PT PW PA PS PSs PI PG PGs PIf PO
abbrev wa0 : Stmt := top 12
def Vj0 : List Str := ["value", "least", "most"]
def k5 : List Str := ["value", "least", "most"]
def qc0 (C : Addr) : En -> Option Fl := (sSeq (sIf (qOr (qB (eIs "bool" (bVar 0))) (qNot (qB (eIs "int" (bVar 0))))) (sRet false (eC (.bl false))) sNx)
  (sRet false (bW0 φLe φLe (bVar 1) (bVar 0) (bVar 2))))
def w5 (C : Addr) : List T -> Option (Bool × T) := fnT Vj0 3 (qc0 C)
abbrev va0 : Stmt := top 13
def Yj0 : List Str := ["value", "least", "most", "what"]
def Y1 : List Str := ["value", "least", "most", "what"]
def jc0 (C : Addr) : En -> Option Fl := (sIf (qNot (qB (eFn (w5 C) (aa0 (eVar 0) (aa0 (eVar 1) (aa0 (eVar 2) aNil)))))) (fun _ => none) sNx)
def Z0 (C : Addr) : List T -> Option (Bool × T) := fnT Yj0 4 (jc0 C)
abbrev ya0 : Stmt := top 14
def Xj0 : List Str := ["name", "names"]
def X2 : List Str := ["name", "names"]
def kc0 (C : Addr) : En -> Option Fl := (sIf (qB (e2 (φIn true) (bVar 0) (bVar 1))) (fun _ => none) sNx)
def Y0 (C : Addr) : List T -> Option (Bool × T) := fnT Xj0 2 (kc0 C)
abbrev xa0 : Stmt := top 15
def zk0 : List Str := ["soils", "top", "soil"]
def v5 : List Str := ["soils", "top"]
def wc0 (C : Addr) : En -> Option Fl := (sSeq (bb0 (eFn (Z0 C) (aa0 (eVar 1) (aa0 (eC (.int 1)) (aa0 (eC (.int 5)) (aa0 (eC (.str "the top")) aNil))))))
  (sSeq (sIf (qNot (qB (eIs "list" (bVar 0)))) (fun _ => none) sNx)
  (sSeq (bb0 (eFn (Z0 C) (aa0 (ao0 φLen (aa0 (bVar 0) aNil)) (aa0 (eC (.int 1)) (aa0 (eC (.int 3)) (aa0 (eC (.str "the count of beds")) aNil))))))
  (sFor (iLst (eVar 0)) (am0 2) (bb0 (eFn (Z0 C) (aa0 (eVar 2) (aa0 (eC (.int 0)) (aa0 (eVar 1) (aa0 (eC (.str "the soil of a bed")) aNil))))))))))
def j3 (C : Addr) : List T -> Option (Bool × T) := fnT zk0 2 (wc0 C)
abbrev ha0 : Stmt := top 16
def qk0 : List Str := ["crop"]
def Z5 : List Str := ["crop"]
def vc0 (C : Addr) : En -> Option Fl := (sSeq (sIf (qOr (qNot (qB (eIs "tuple" (bVar 0)))) (qB (e2 φNe (ao0 φLen (aa0 (bVar 0) aNil)) (eC (.int 5))))) (fun _ => none) sNx)
  (sSeq (sIf (qOr (qNot (qB (eIs "str" (e2 φIx (bVar 0) (eC (.int 0)))))) (qB (e2 φEq (e2 φIx (bVar 0) (eC (.int 0))) (eC (.str ""))))) (fun _ => none) sNx)
  (sSeq (bb0 (eFn (Z0 C) (aa0 (e2 φIx (bVar 0) (eC (.int 1))) (aa0 (e1 φNeg (eC (.int 3))) (aa0 (eC (.int 3)) (aa0 (eC (.str "the change of a crop")) aNil))))))
  (sSeq (bb0 (eFn (Z0 C) (aa0 (e2 φIx (bVar 0) (eC (.int 2))) (aa0 (eC (.int 0)) (aa0 (eC (.int 1000)) (aa0 (eC (.str "the harvest of a crop")) aNil))))))
  (sSeq (bb0 (eFn (Z0 C) (aa0 (e2 φIx (bVar 0) (eC (.int 3))) (aa0 (eC (.int 0)) (aa0 (eC (.int 3)) (aa0 (eC (.str "the gap of a crop")) aNil))))))
  (sIf (qNot (qB (eIs "list" (e2 φIx (bVar 0) (eC (.int 4)))))) (fun _ => none) sNx))))))
def Z3 (C : Addr) : List T -> Option (Bool × T) := fnT qk0 1 (vc0 C)
abbrev V8 : Stmt := top 19
def yc0 : List Str := ["crops"]
def Q3 : List Str := ["crops"]
def xc0 (C : Addr) : En -> Option Fl := (sRet true (aN0 1 (iLst (eVar 0)) (am0 0) be0 (e2 φIx (bVar 0) (eC (.int 0)))))
def Q1 (C : Addr) : List T -> Option (Bool × T) := fnT yc0 1 (xc0 C)
abbrev Za0 : Stmt := top 17
def jk0 : List Str := ["crops", "crop", "names", "name"]
def Q5 : List Str := ["crops"]
def Zc0 (C : Addr) : En -> Option Fl := (sSeq (sIf (qNot (qB (eIs "list" (bVar 0)))) (fun _ => none) sNx)
  (sSeq (bb0 (eFn (Z0 C) (aa0 (ao0 φLen (aa0 (bVar 0) aNil)) (aa0 (eC (.int 1)) (aa0 (eC (.int 5)) (aa0 (eC (.str "the count of crops")) aNil))))))
  (sSeq (sFor (iLst (eVar 0)) (am0 1) (bb0 (eFn (Z3 C) (aa0 (eVar 1) aNil))))
  (sSeq (sSet 2 (eFnF (Q1 C) (aa0 (eVar 0) aNil)))
  (sSeq (sIf (qB (e2 φNe (dl0 (bVar 2)) (ao0 φLen (aa0 (bVar 2) aNil)))) (fun _ => none) sNx)
  (sFor (iLst (eVar 0)) (am0 1) (sFor (iLst (e2 φIx (bVar 1) (eC (.int 4)))) (am0 3) (bb0 (eFn (Y0 C) (aa0 (eVar 3) (aa0 (eVar 2) aNil)))))))))))
def J3 (C : Addr) : List T -> Option (Bool × T) := fnT jk0 1 (Zc0 C)
abbrev Qa0 : Stmt := top 18
def kk0 : List Str := ["wants", "names", "name", "pair"]
def J5 : List Str := ["wants", "names"]
def Qc0 (C : Addr) : En -> Option Fl := (sSeq (sIf (qNot (qB (eIs "dict" (bVar 0)))) (fun _ => none) sNx)
  (sFor (fK0 (eVar 0)) (bP0 2 3) (sSeq (bb0 (eFn (Y0 C) (aa0 (eVar 2) (aa0 (eVar 1) aNil))))
  (sSeq (sIf (qOr (qNot (qB (eIs "tuple" (bVar 3)))) (qB (e2 φNe (ao0 φLen (aa0 (bVar 3) aNil)) (eC (.int 2))))) (fun _ => none) sNx)
  (sSeq (bb0 (eFn (Z0 C) (aa0 (e2 φIx (bVar 3) (eC (.int 1))) (aa0 (eC (.int 0)) (aa0 (eC (.int 3)) (aa0 (eC (.str "the most of a want")) aNil))))))
  (bb0 (eFn (Z0 C) (aa0 (e2 φIx (bVar 3) (eC (.int 0))) (aa0 (eC (.int 0)) (aa0 (e2 φIx (bVar 3) (eC (.int 1))) (aa0 (eC (.str "the least of a want")) aNil)))))))))))
def K3 (C : Addr) : List T -> Option (Bool × T) := fnT kk0 2 (Qc0 C)
abbrev Y8 : Stmt := top 20
def Jc0 : List Str := ["some", "names"]
def K5 : List Str := ["some", "names"]
def Kc0 (C : Addr) : En -> Option Fl := (sRet false (ao0 bj0 (aa0 (aN0 1 (iLst (eVar 0)) (am0 0) be0 (eBM cG0 (bVar 2) (aa0 (bVar 0) aNil))) aNil)))
def X1 (C : Addr) : List T -> Option (Bool × T) := fnT Jc0 2 (Kc0 C)
abbrev X8 : Stmt := top 21
def Wc0 : List Str := ["rows", "crops", "longer", "row"]
def W5 : List Str := ["rows", "crops"]
def Vc0 (C : Addr) : En -> Option Fl := (sSeq (cy0 2 (eLst aNil))
  (sSeq (sFor (iLst (eVar 0)) (am0 3) (sExt 2 (aN0 1 (iLst (eVar 1)) (am0 0) be0 (e2 cl0 (bVar 4) (eTup (aa0 (eVar 0) aNil))))))
  (eq0 2)))
def W3 (C : Addr) : List T -> Option (Bool × T) := fnT Wc0 2 (Vc0 C)
abbrev j2 : Stmt := aZ0 (top 22) 0
def X0 : List Str := ["self", "soils", "top", "crops", "wants", "names"]
def V5 : List Str := ["self", "soils", "top", "crops", "wants"]
def Yc0 (C : Addr) : En -> Option Fl := (sSeq (bb0 (eFn (j3 C) (aa0 (eVar 1) (aa0 (eVar 2) aNil))))
  (sSeq (bb0 (eFn (J3 C) (aa0 (eVar 3) aNil)))
  (sSeq (sSet 5 (eFnF (Q1 C) (aa0 (eVar 3) aNil)))
  (sSeq (bb0 (eFn (K3 C) (aa0 (eVar 4) (aa0 (eVar 5) aNil))))
  (sSeq (cg0 C 0 "soils" (ao0 bj0 (aa0 (bVar 1) aNil)))
  (sSeq (cg0 C 0 "top" (eVar 2))
  (sSeq (cg0 C 0 "changes" (ao0 bj0 (aa0 (aN0 1 (iLst (eVar 3)) (am0 0) be0 (e2 φIx (bVar 0) (eC (.int 1)))) aNil)))
  (sSeq (cg0 C 0 "harvests" (ao0 bj0 (aa0 (aN0 1 (iLst (eVar 3)) (am0 0) be0 (e2 φIx (bVar 0) (eC (.int 2)))) aNil)))
  (sSeq (cg0 C 0 "gaps" (ao0 bj0 (aa0 (aN0 1 (iLst (eVar 3)) (am0 0) be0 (e2 φIx (bVar 0) (eC (.int 3)))) aNil)))
  (sSeq (cg0 C 0 "bars" (ao0 bj0 (aa0 (aN0 1 (iLst (eVar 3)) (am0 0) be0 (eFn (X1 C) (aa0 (e2 φIx (bVar 0) (eC (.int 4))) (aa0 (eVar 6) aNil)))) aNil)))
  (sSeq (cg0 C 0 "wants" (ao0 bj0 (aa0 (aN0 2 (fK0 (eVar 4)) (bP0 0 1) be0 (eTup (aa0 (eBM cG0 (bVar 7) (aa0 (bVar 0) aNil)) (aa0 (e2 φIx (bVar 1) (eC (.int 0))) (aa0 (e2 φIx (bVar 1) (eC (.int 1))) aNil))))) aNil)))
  (cg0 C 0 "depth" (ao0 hQ0 (aa0 (eC (.int 1)) (aa0 (ao0 φMax (aa0 (eFld C "gaps" (bVar 0)) aNil)) aNil)))))))))))))))
def Y5 (C : Addr) : List T -> Option (List (Str × T)) := fnI C X0 5 (Yc0 C)
abbrev z9 : Stmt := aZ0 (top 22) 1
def Xc0 : List Str := ["self"]
def X5 : List Str := ["self"]
def zd0 (C : Addr) : En -> Option Fl := (sRet false (ao0 bj0 (aa0 (aN0 1 (iTpl (eFld C "soils" (bVar 0))) (am0 0) be0 (eTup (aa0 (eVar 0) (aa0 (eTup aNil) aNil)))) aNil)))
def J1 (C : Addr) : List T -> Option (Bool × T) := fnT Xc0 1 (zd0 C)
abbrev Ja0 : Stmt := aZ0 (top 22) 6
def wk0 : List Str := ["self", "soil", "stood", "crop"]
def V3 : List Str := ["self", "soil", "stood", "crop"]
def qd0 (C : Addr) : En -> Option Fl := (sSeq (sIf (qB (e2 φLt (e2 φAdd (bVar 1) (e2 φIx (eFld C "changes" (bVar 0)) (bVar 3))) (eC (.int 0)))) (sRet false (eC (.bl false))) sNx)
  (sSeq (sIf (qB (e2 (φIn false) (bVar 3) (eSlT (bVar 2) (bd0 none) (bd0 (some (e2 φIx (eFld C "gaps" (bVar 0)) (bVar 3))))))) (sRet false (eC (.bl false))) sNx)
  (sRet false (eOr (e2 φEq (ao0 φLen (aa0 (bVar 2) aNil)) (eC (.int 0))) (e2 (φIn true) (e2 φIx (bVar 2) (eC (.int 0))) (e2 φIx (eFld C "bars" (bVar 0)) (bVar 3)))))))
def W1 (C : Addr) : List T -> Option (Bool × T) := fnT wk0 4 (qd0 C)
abbrev q9 : Stmt := aZ0 (top 22) 5
def jd0 : List Str := ["self", "soil", "stood"]
def j6 : List Str := ["self", "soil", "stood"]
def kd0 (C : Addr) : En -> Option Fl := (sRet true (aN0 1 (aO0 (aa0 (ao0 φLen (aa0 (eFld C "changes" (bVar 0)) aNil)) aNil)) (am0 0) (qB (bn0 C "lets" (W1 C) (eVar 1) (aa0 (eVar 2) (aa0 (eVar 3) (aa0 (eVar 0) aNil))))) (eVar 0)))
def Y3 (C : Addr) : List T -> Option (Bool × T) := fnT jd0 3 (kd0 C)
abbrev Ka0 : Stmt := aZ0 (top 22) 7
def vk0 : List Str := ["self", "planting", "crop", "least", "most"]
def X3 : List Str := ["self", "planting"]
def wd0 (C : Addr) : En -> Option Fl := (sSeq (sFor (iTpl (eFld C "wants" (bVar 0))) (hC0 2 3 4) (sIf (qNot (qB (bW0 φLe φLe (bVar 3) (eBM cT0 (bVar 1) (aa0 (bVar 2) aNil)) (bVar 4)))) (sRet false (eC (.bl false))) sNx))
  (sRet false (eC (.bl true))))
def Z2 (C : Addr) : List T -> Option (Bool × T) := fnT vk0 2 (wd0 C)
abbrev j9 : Stmt := aZ0 (top 22) 2
def vd0 : List Str := ["self", "state", "rows", "soil", "stood"]
def k6 : List Str := ["self", "state"]
def yd0 (C : Addr) : En -> Option Fl := (sSeq (sSet 2 (eLst (aa0 (eTup aNil) aNil)))
  (sSeq (sFor (iTpl (eVar 1)) (bP0 3 4) (sSet 2 (eFnF (W3 C) (aa0 (eVar 2) (aa0 (cv0 C "crops_for" (Y3 C) (eVar 0) (aa0 (eVar 3) (aa0 (eVar 4) aNil))) aNil)))))
  (sRet true (aN0 1 (iLst (eVar 2)) (am0 0) (qB (bn0 C "meets_wants" (Z2 C) (eVar 1) (aa0 (eVar 0) aNil))) (eVar 0)))))
def V2 (C : Addr) : List T -> Option (Bool × T) := fnT vd0 2 (yd0 C)
abbrev Wa0 : Stmt := aZ0 (top 22) 10
def yk0 : List Str := ["self", "soil", "stood", "crop", "row"]
def w6 : List Str := ["self", "soil", "stood", "crop"]
def xd0 (C : Addr) : En -> Option Fl := (sSeq (sSet 4 (e2 cl0 (eTup (aa0 (eVar 3) aNil)) (bVar 2)))
  (sRet false (eTup (aa0 (ao0 dm0 (aa0 (eFld C "top" (bVar 0)) (aa0 (e2 φAdd (bVar 1) (e2 φIx (eFld C "changes" (bVar 0)) (bVar 3))) aNil))) (aa0 (eSlT (bVar 4) (bd0 none) (bd0 (some (eFld C "depth" (bVar 0))))) aNil)))))
def j4 (C : Addr) : List T -> Option (Bool × T) := fnT yk0 4 (xd0 C)
abbrev w9 : Stmt := aZ0 (top 22) 9
def Va0 : List Str := ["self", "state", "planting"]
def v6 : List Str := ["self", "state", "planting"]
def hd0 (C : Addr) : En -> Option Fl := (sRet false (ao0 bj0 (aa0 (aN0 2 (hS0 (aa0 (bVar 1) (aa0 (bVar 2) aNil))) (bP0 0 1) be0 (bn0 C "bed_behind" (j4 C) (eVar 2) (aa0 (e2 φIx (bVar 0) (eC (.int 0))) (aa0 (e2 φIx (bVar 0) (eC (.int 1))) (aa0 (eVar 1) aNil))))) aNil)))
def y6 (C : Addr) : List T -> Option (Bool × T) := fnT Va0 3 (hd0 C)
abbrev Ya0 : Stmt := aZ0 (top 22) 8
def xk0 : List Str := ["self", "state", "planting", "bed", "crop"]
def Z6 : List Str := ["self", "state", "planting"]
def Zd0 (C : Addr) : En -> Option Fl := (sSeq (sIf (qB (e2 φNe (ao0 φLen (aa0 (bVar 2) aNil)) (ao0 φLen (aa0 (bVar 1) aNil)))) (sRet false (eC (.bl false))) sNx)
  (sSeq (sFor (hS0 (aa0 (bVar 1) (aa0 (bVar 2) aNil))) (bP0 3 4) (sSeq (sIf (qNot (qB (bW0 φLe φLt (eC (.int 0)) (bVar 4) (ao0 φLen (aa0 (eFld C "changes" (bVar 0)) aNil))))) (sRet false (eC (.bl false))) sNx)
  (sIf (qNot (qB (bn0 C "lets" (W1 C) (eVar 0) (aa0 (e2 φIx (bVar 3) (eC (.int 0))) (aa0 (e2 φIx (bVar 3) (eC (.int 1))) (aa0 (eVar 4) aNil)))))) (sRet false (eC (.bl false))) sNx)))
  (sRet false (bn0 C "meets_wants" (Z2 C) (eVar 0) (aa0 (eVar 2) aNil)))))
def y4 (C : Addr) : List T -> Option (Bool × T) := fnT xk0 3 (Zd0 C)
abbrev Xa0 : Stmt := aZ0 (top 22) 3
def hk0 : List Str := ["self", "state", "planting"]
def Q6 : List Str := ["self", "state", "planting"]
def Qd0 (C : Addr) : En -> Option Fl := (sSeq (sIf (qNot (qB (bn0 C "fits" (y4 C) (eVar 0) (aa0 (eVar 1) (aa0 (eVar 2) aNil))))) (fun _ => none) sNx)
  (sRet false (bn0 C "beds_behind" (y6 C) (eVar 0) (aa0 (eVar 1) (aa0 (eVar 2) aNil)))))
def J6 (C : Addr) : List T -> Option (Bool × T) := fnT hk0 3 (Qd0 C)
abbrev v9 : Stmt := aZ0 (top 22) 4
def Jd0 : List Str := ["self", "planting"]
def K6 : List Str := ["self", "planting"]
def Kd0 (C : Addr) : En -> Option Fl := (sRet false (ao0 φSum (aa0 (aN0 1 (iTpl (eVar 1)) (am0 0) be0 (e2 φIx (eFld C "harvests" (bVar 1)) (bVar 0))) aNil)))
def W6 (C : Addr) : List T -> Option (Bool × T) := fnT Jd0 2 (Kd0 C)
abbrev zb0 : Stmt := top 24
def Zk0 : List Str := ["script", "k"]
def V6 : List Str := ["script", "k"]
def Wd0 (C : Addr) : En -> Option Fl := (sSeq (sIf (qB (e2 φLt (bVar 1) (ao0 φLen (aa0 (bVar 0) aNil)))) (sRet false (e2 φIx (bVar 0) (bVar 1))) sNx)
  (sRet false (eC (.int 0))))
def Z4 (C : Addr) : List T -> Option (Bool × T) := fnT Zk0 2 (Wd0 C)
abbrev qb0 : Stmt := top 25
def Qk0 : List Str := ["script", "k"]
def V1 : List Str := ["script", "k"]
def Vd0 (C : Addr) : En -> Option Fl := (sRet false (e2 φMod (e2 φMul (e2 φAdd (eFn (Z4 C) (aa0 (eVar 0) (aa0 (e2 φMod (bVar 1) (eC (.int 61))) aNil))) (e2 φMul (eC (.int 7919)) (bVar 1))) (e2 φAdd (eC (.int 48271)) (e2 φMul (eC (.int 2)) (bVar 1)))) (eC (.int 2147483647))))
def j0 (C : Addr) : List T -> Option (Bool × T) := fnT Qk0 2 (Vd0 C)
abbrev jb0 : Stmt := top 26
def Jk0 : List Str := ["found"]
def Y6 : List Str := ["found"]
def qh0 (C : Addr) : En -> Option Fl := (sRet false (eAnd (eIs "int" (bVar 0)) (eNot (eIs "bool" (bVar 0)))))
def y9 (C : Addr) : List T -> Option (Bool × T) := fnT Jk0 1 (qh0 C)
abbrev kb0 : Stmt := top 27
def Kk0 : List Str := ["script", "k", "names", "gaps", "bars", "j", "harvest", "change"]
def X6 : List Str := ["script", "k", "names", "gaps"]
def Yd0 (C : Addr) : En -> Option Fl := (sSeq (cy0 4 (eLst aNil))
  (sSeq (sFor (aO0 (aa0 (ao0 φLen (aa0 (bVar 2) aNil)) aNil)) (am0 5) (sIf (qB (e2 φEq (e2 φMod (eFn (j0 C) (aa0 (eVar 0) (aa0 (e2 φAdd (e2 φAdd (eC (.int 20)) (e2 φMul (eC (.int 10)) (bVar 1))) (bVar 5)) aNil))) (eC (.int 5))) (eC (.int 1)))) (sApp 4 (e2 φIx (bVar 2) (bVar 5))) sNx))
  (sSeq (sSet 6 (e2 φMod (eFn (j0 C) (aa0 (eVar 0) (aa0 (e2 φAdd (eC (.int 26)) (e2 φMul (eC (.int 10)) (bVar 1))) aNil))) (e2 φIx (eLst (aa0 (eC (.int 10)) (aa0 (eC (.int 3)) (aa0 (eC (.int 1001)) aNil)))) (e2 φMod (eFn (j0 C) (aa0 (eVar 0) (aa0 (eC (.int 9)) aNil))) (eC (.int 3))))))
  (sSeq (sSet 7 (e2 φSub (e2 φMod (eFn (j0 C) (aa0 (eVar 0) (aa0 (e2 φAdd (eC (.int 27)) (e2 φMul (eC (.int 10)) (bVar 1))) aNil))) (eC (.int 7))) (eC (.int 3))))
  (fun ε => (sRet false (eTup (aa0 (e2 φIx (bVar 2) (bVar 1)) (aa0 (eVar 7) (aa0 (eVar 6) (aa0 (e2 φMod (eFn (j0 C) (aa0 (eVar 0) (aa0 (e2 φAdd (eC (.int 28)) (e2 φMul (eC (.int 10)) (bVar 1))) aNil))) (e2 φAdd (bVar 3) (eC (.int 1)))) (aa0 (eVar 4) aNil))))))) (frz 4 ε))))))
def Q4 (C : Addr) : List T -> Option (Bool × T) := fnT Kk0 4 (Yd0 C)
abbrev wb0 : Stmt := top 28
def Wk0 : List Str := ["script", "names", "beds", "wants", "k", "cell", "least"]
def j7 : List Str := ["script", "names", "beds"]
def Xd0 (C : Addr) : En -> Option Fl := (sSeq (cy0 3 eDct0)
  (sSeq (sFor (aO0 (aa0 (ao0 φLen (aa0 (bVar 1) aNil)) aNil)) (am0 4) (sSeq (sSet 5 (eFn (j0 C) (aa0 (eVar 0) (aa0 (e2 φAdd (eC (.int 80)) (bVar 4)) aNil))))
  (sIf (qB (e2 φEq (e2 φMod (bVar 5) (eC (.int 5))) (eC (.int 1)))) (sSeq (sSet 6 (e2 φIx (eLst (aa0 (eC (.int 0)) (aa0 (eC (.int 0)) (aa0 (eC (.int 1)) (aa0 (eVar 2) aNil))))) (e2 φMod (e2 φDiv (bVar 5) (eC (.int 5))) (eC (.int 4)))))
  (sDPut 3 (e2 φIx (bVar 1) (bVar 4)) (eTup (aa0 (eVar 6) (aa0 (ao0 dm0 (aa0 (eC (.int 3)) (aa0 (e2 φAdd (bVar 6) (e2 φMod (e2 φDiv (bVar 5) (eC (.int 20))) (e2 φAdd (bVar 2) (eC (.int 1))))) aNil))) aNil))))) sNx)))
  (eq0 3)))
def k7 (C : Addr) : List T -> Option (Bool × T) := fnT Wk0 3 (Xd0 C)
abbrev v7 : Stmt := top 29
def Z9 : List Str := ["script", "beds", "mode", "top", "many", "gaps", "turn", "names", "crops", "soils"]
def y7 : List Str := ["script", "beds"]
def ze0 (C : Addr) : En -> Option Fl := (sSeq (sSet 2 (e2 φMod (eFn (j0 C) (aa0 (eVar 0) (aa0 (eC (.int 1)) aNil))) (eC (.int 8))))
  (sSeq (sSet 3 (e2 φIx (eLst (aa0 (eC (.int 1)) (aa0 (eC (.int 2)) (aa0 (eC (.int 3)) (aa0 (eC (.int 3)) (aa0 (eC (.int 2)) (aa0 (eC (.int 5)) (aa0 (eC (.int 4)) (aa0 (eC (.int 1)) aNil))))))))) (bVar 2)))
  (sSeq (sSet 4 (e2 φIx (eLst (aa0 (eC (.int 4)) (aa0 (eC (.int 3)) (aa0 (eC (.int 4)) (aa0 (eC (.int 3)) (aa0 (eC (.int 2)) (aa0 (eC (.int 2)) (aa0 (eC (.int 2)) (aa0 (eC (.int 3)) aNil))))))))) (bVar 2)))
  (sSeq (sSet 5 (e2 φIx (eLst (aa0 (eC (.int 1)) (aa0 (eC (.int 2)) (aa0 (eC (.int 2)) (aa0 (eC (.int 1)) (aa0 (eC (.int 3)) (aa0 (eC (.int 2)) (aa0 (eC (.int 3)) (aa0 (eC (.int 3)) aNil))))))))) (bVar 2)))
  (sSeq (sIf (qB (e2 φGt (bVar 1) (eC (.int 1)))) (sSeq (sSet 3 (eC (.int 1)))
  (sSeq (sSet 4 (e2 φAdd (eC (.int 1)) (e2 φMod (eFn (j0 C) (aa0 (eVar 0) (aa0 (eC (.int 2)) aNil))) (eC (.int 2)))))
  (sSet 5 (e2 φMod (eFn (j0 C) (aa0 (eVar 0) (aa0 (eC (.int 4)) aNil))) (eC (.int 2)))))) sNx)
  (sSeq (sSet 6 (e2 φMod (eFn (j0 C) (aa0 (eVar 0) (aa0 (eC (.int 3)) aNil))) (eC (.int 5))))
  (sSeq (sSet 7 (eLst (aa0 (eC (.str "bean")) (aa0 (eC (.str "rye")) (aa0 (eC (.str "kale")) (aa0 (eC (.str "oat")) (aa0 (eC (.str "pea")) aNil)))))))
  (sSeq (sSet 7 (eSlL (e2 fP0 (eSlL (bVar 7) (bd0 (some (bVar 6))) (bd0 none)) (eSlL (bVar 7) (bd0 none) (bd0 (some (bVar 6))))) (bd0 none) (bd0 (some (bVar 4)))))
  (sSeq (sSet 8 (aN0 1 (aO0 (aa0 (bVar 4) aNil)) (am0 0) be0 (eFn (Q4 C) (aa0 (eVar 1) (aa0 (eVar 0) (aa0 (eVar 8) (aa0 (eVar 6) aNil)))))))
  (sSeq (sSet 9 (aN0 1 (aO0 (aa0 (bVar 1) aNil)) (am0 0) be0 (e2 φMod (eFn (j0 C) (aa0 (eVar 1) (aa0 (e2 φAdd (eC (.int 5)) (bVar 0)) aNil))) (e2 φAdd (bVar 4) (eC (.int 1))))))
  (sRet false (eTup (aa0 (eVar 9) (aa0 (eVar 3) (aa0 (eVar 8) (aa0 (eFnF (k7 C) (aa0 (eVar 0) (aa0 (eVar 7) (aa0 (eVar 1) aNil)))) aNil))))))))))))))))
def Z7 (C : Addr) : List T -> Option (Bool × T) := fnT Z9 2 (ze0 C)
abbrev vb0 : Stmt := top 30
def Vk0 : List Str := ["script", "most", "cell"]
def Q7 : List Str := ["script", "most"]
def qe0 (C : Addr) : En -> Option Fl := (sSeq (sSet 2 (eFn (j0 C) (aa0 (eVar 0) (aa0 (eC (.int 8)) aNil))))
  (sSeq (sIf (qB (e2 φEq (bVar 1) (eC (.int 3)))) (sRet false (e2 φAdd (eC (.int 1)) (e2 φMod (bVar 2) (eC (.int 3))))) sNx)
  (sSeq (sIf (qAnd (qB (e2 φEq (bVar 1) (eC (.int 2)))) (qB (e2 φEq (e2 φMod (bVar 2) (eC (.int 8))) (eC (.int 7))))) (sRet false (eC (.int 3))) sNx)
  (sRet false (e2 φAdd (eC (.int 1)) (e2 φMod (bVar 2) (eC (.int 2))))))))
def J7 (C : Addr) : List T -> Option (Bool × T) := fnT Vk0 2 (qe0 C)
abbrev J4 : Stmt := top 31
def Q9 : List Str := ["plot", "crops"]
def Q2 : List Str := ["plot"]
def je0 (C : Addr) : En -> Option Fl := (sSeq (sSet 1 (aN0 1 (iLst (e2 φIx (bVar 0) (eC (.int 2)))) (am0 0) be0 (e2 cl0 (eSlT (bVar 0) (bd0 none) (bd0 (some (eC (.int 4))))) (eTup (aa0 (ao0 dq0 (aa0 (e2 φIx (bVar 0) (eC (.int 4))) aNil)) aNil)))))
  (sRet true (eLst (aa0 (ao0 dq0 (aa0 (e2 φIx (bVar 0) (eC (.int 0))) aNil)) (aa0 (e2 φIx (bVar 0) (eC (.int 1))) (aa0 (eVar 1) (aa0 (ao0 io0 (aa0 (e2 φIx (bVar 0) (eC (.int 3))) aNil)) aNil)))))))
def K7 (C : Addr) : List T -> Option (Bool × T) := fnT Q9 1 (je0 C)
abbrev J9 : Stmt := top 32
def ke0 : List Str := ["plot"]
def W7 : List Str := ["plot"]
def we0 (C : Addr) : En -> Option Fl := (sRet false (ao0 φMax (aa0 (e2 fP0 (eLst (aa0 (eC (.int 1)) aNil)) (aN0 1 (iLst (e2 φIx (bVar 0) (eC (.int 2)))) (am0 0) be0 (e2 φIx (bVar 0) (eC (.int 3))))) aNil)))
def K4 (C : Addr) : List T -> Option (Bool × T) := fnT ke0 1 (we0 C)
abbrev yb0 : Stmt := top 33
def Yk0 : List Str := ["plot", "bed", "number", "crop", "k"]
def V7 : List Str := ["plot", "bed", "number"]
def ve0 (C : Addr) : En -> Option Fl := (sSeq (sSet 3 (e2 φIx (e2 φIx (bVar 0) (eC (.int 2))) (bVar 2)))
  (sSeq (sIf (qB (e2 φLt (e2 φAdd (e2 φIx (bVar 1) (eC (.int 0))) (e2 φIx (bVar 3) (eC (.int 1)))) (eC (.int 0)))) (sRet false (eC (.bl false))) sNx)
  (sSeq (sFor (aO0 (aa0 (ao0 dm0 (aa0 (e2 φIx (bVar 3) (eC (.int 3))) (aa0 (ao0 φLen (aa0 (e2 φIx (bVar 1) (eC (.int 1))) aNil)) aNil))) aNil)) (am0 4) (sIf (qB (e2 φEq (e2 φIx (e2 φIx (bVar 1) (eC (.int 1))) (bVar 4)) (bVar 2))) (sRet false (eC (.bl false))) sNx))
  (sRet false (eOr (e2 φEq (e2 φIx (bVar 1) (eC (.int 1))) (eTup aNil)) (e2 (φIn true) (e2 φIx (e2 φIx (e2 φIx (bVar 0) (eC (.int 2))) (e2 φIx (e2 φIx (bVar 1) (eC (.int 1))) (eC (.int 0)))) (eC (.int 0))) (e2 φIx (bVar 3) (eC (.int 4)))))))))
def J2 (C : Addr) : List T -> Option (Bool × T) := fnT Yk0 3 (ve0 C)
abbrev K9 : Stmt := top 34
def ye0 : List Str := ["plot", "planting", "names", "name"]
def Y7 : List Str := ["plot", "planting"]
def xe0 (C : Addr) : En -> Option Fl := (sSeq (sSet 2 (aN0 1 (iTpl (eVar 1)) (am0 0) be0 (e2 φIx (e2 φIx (e2 φIx (bVar 1) (eC (.int 2))) (bVar 0)) (eC (.int 0)))))
  (sSeq (sFor (iKey (e2 φIx (bVar 0) (eC (.int 3)))) (am0 3) (sIf (qOr (qB (e2 φLt (eBM cX0 (bVar 2) (aa0 (bVar 3) aNil)) (e2 φIx (e2 gw0 (e2 φIx (bVar 0) (eC (.int 3))) (bVar 3)) (eC (.int 0))))) (qB (e2 φGt (eBM cX0 (bVar 2) (aa0 (bVar 3) aNil)) (e2 φIx (e2 gw0 (e2 φIx (bVar 0) (eC (.int 3))) (bVar 3)) (eC (.int 1)))))) (sRet false (eC (.bl false))) sNx))
  (sRet false (eC (.bl true)))))
def W4 (C : Addr) : List T -> Option (Bool × T) := fnT ye0 2 (xe0 C)
abbrev xb0 : Stmt := top 35
def Xk0 : List Str := ["rows", "numbers", "longer", "row", "number"]
def X7 : List Str := ["rows", "numbers"]
def he0 (C : Addr) : En -> Option Fl := (sSeq (cy0 2 (eLst aNil))
  (sSeq (sFor (iLst (eVar 0)) (am0 3) (sFor (iLst (eVar 1)) (am0 4) (sApp 2 (e2 cl0 (bVar 3) (eTup (aa0 (eVar 4) aNil))))))
  (eq0 2)))
def V4 (C : Addr) : List T -> Option (Bool × T) := fnT Xk0 2 (he0 C)
abbrev z8 : Stmt := top 36
def W9 : List Str := ["plot", "state", "rows", "bed"]
def q8 : List Str := ["plot", "state"]
def Ze0 (C : Addr) : En -> Option Fl := (sSeq (sSet 2 (eLst (aa0 (eTup aNil) aNil)))
  (sSeq (sFor (iTpl (eVar 1)) (am0 3) (sSet 2 (eFnF (V4 C) (aa0 (eVar 2) (aa0 (aN0 1 (aO0 (aa0 (ao0 φLen (aa0 (e2 φIx (bVar 0) (eC (.int 2))) aNil)) aNil)) (am0 0) (qB (eFn (J2 C) (aa0 (eVar 1) (aa0 (eVar 4) (aa0 (eVar 0) aNil))))) (eVar 0)) aNil)))))
  (sRet true (aN0 1 (iLst (eVar 2)) (am0 0) (qB (eFn (W4 C) (aa0 (eVar 1) (aa0 (eVar 0) aNil)))) (eVar 0)))))
def Y4 (C : Addr) : List T -> Option (Bool × T) := fnT W9 2 (Ze0 C)
abbrev hb0 : Stmt := top 37
def zl0 : List Str := ["plot", "state", "planting", "beds", "k", "soil"]
def j8 : List Str := ["plot", "state", "planting"]
def Qe0 (C : Addr) : En -> Option Fl := (sSeq (cy0 3 (eLst aNil))
  (sSeq (sFor (aO0 (aa0 (ao0 φLen (aa0 (bVar 1) aNil)) aNil)) (am0 4) (sSeq (sSet 5 (ao0 dm0 (aa0 (e2 φIx (bVar 0) (eC (.int 1))) (aa0 (e2 φAdd (e2 φIx (e2 φIx (bVar 1) (bVar 4)) (eC (.int 0))) (e2 φIx (e2 φIx (e2 φIx (bVar 0) (eC (.int 2))) (e2 φIx (bVar 2) (bVar 4))) (eC (.int 1)))) aNil))))
  (sApp 3 (eTup (aa0 (eVar 5) (aa0 (eSlT (e2 cl0 (eTup (aa0 (e2 φIx (bVar 2) (bVar 4)) aNil)) (e2 φIx (e2 φIx (bVar 1) (bVar 4)) (eC (.int 1)))) (bd0 none) (bd0 (some (eFn (K4 C) (aa0 (eVar 0) aNil))))) aNil))))))
  (sRet false (ao0 bj0 (aa0 (bVar 3) aNil)))))
def k8 (C : Addr) : List T -> Option (Bool × T) := fnT zl0 3 (Qe0 C)
abbrev V9 : Stmt := top 38
def Je0 : List Str := ["plot"]
def v8 : List Str := ["plot"]
def Ke0 (C : Addr) : En -> Option Fl := (sRet false (ao0 bj0 (aa0 (aN0 1 (iLst (e2 φIx (bVar 0) (eC (.int 0)))) (am0 0) be0 (eTup (aa0 (eVar 0) (aa0 (eTup aNil) aNil)))) aNil)))
def Y2 (C : Addr) : List T -> Option (Bool × T) := fnT Je0 1 (Ke0 C)
abbrev Y9 : Stmt := top 39
def We0 : List Str := ["plot", "planting"]
def y8 : List Str := ["plot", "planting"]
def Ve0 (C : Addr) : En -> Option Fl := (sRet false (ao0 φSum (aa0 (aN0 1 (iTpl (eVar 1)) (am0 0) be0 (e2 φIx (e2 φIx (e2 φIx (bVar 1) (eC (.int 2))) (bVar 0)) (eC (.int 2)))) aNil)))
def h8 (C : Addr) : List T -> Option (Bool × T) := fnT We0 2 (Ve0 C)
abbrev j1 : Stmt := top 40
def Zb0 : List Str := ["script", "plot", "handed", "garden", "due", "names", "crop", "planting", "found", "row", "state"]
def Ye0 : List Str := ["script"]
def jh0 (C : Addr) : En -> Option Fl := (sSet 1 (eFn (Z7 C) (aa0 (eVar 0) (aa0 (eFn (J7 C) (aa0 (eVar 0) (aa0 (eC (.int 3)) aNil))) aNil))))
def mu0 (C : Addr) : En -> Option Fl := (sSet 3 (jB0 C (Y5 C) (aa0 (e2 φIx (bVar 2) (eC (.int 0))) (aa0 (e2 φIx (bVar 2) (eC (.int 1))) (aa0 (e2 φIx (bVar 2) (eC (.int 2))) (aa0 (e2 φIx (bVar 2) (eC (.int 3))) aNil))))))
noncomputable def kh0 (C : Addr) : En -> Option Fl := (sIf (qB (e2 φNeS (bVar 2) (eFnF (K7 C) (aa0 (eVar 1) aNil)))) (sRet false (eC (.bl false))) sNx)
def jL0 (C : Addr) : En -> Option Fl := (sIf (qOr (qNot (qB (eIs "tuple" (bn0 C "start" (J1 C) (eVar 3) aNil)))) (qB (e2 φNe (bn0 C "start" (J1 C) (eVar 3) aNil) (eFn (Y2 C) (aa0 (eVar 1) aNil))))) (sRet false (eC (.bl false))) sNx)
def ku0 (C : Addr) : En -> Option Fl := (sSet 7 (ao0 bj0 (aa0 (aN0 1 (aO0 (aa0 (ao0 φLen (aa0 (e2 φIx (bVar 1) (eC (.int 0))) aNil)) aNil)) (am0 0) be0 (e2 φMod (eFn (j0 C) (aa0 (eVar 1) (aa0 (e2 φAdd (eC (.int 95)) (bVar 0)) aNil))) (ao0 φLen (aa0 (e2 φIx (bVar 2) (eC (.int 2))) aNil)))) aNil)))
def jJ0 (C : Addr) : En -> Option Fl := (sSet 8 (bn0 C "harvest" (W6 C) (eVar 3) (aa0 (eVar 7) aNil)))
def jF0 (C : Addr) : En -> Option Fl := (sIf (qOr (qNot (qB (eFn (y9 C) (aa0 (eVar 8) aNil)))) (qB (e2 φNe (bVar 8) (eFn (h8 C) (aa0 (eVar 1) (aa0 (eVar 7) aNil)))))) (sRet false (eC (.bl false))) sNx)
def iq0 (C : Addr) : En -> Option Fl := (sIf (qB (e2 φNe (cv0 C "may" (V2 C) (eVar 3) (aa0 (bn0 C "start" (J1 C) (eVar 3) aNil) aNil)) (e2 φIx (bVar 4) (eC (.int 0))))) (sRet false (eC (.bl false))) sNx)
def Qb0 (C : Addr) : En -> Option Fl := (sSeq (sSet 10 (eFn (k8 C) (aa0 (eVar 1) (aa0 (eFn (Y2 C) (aa0 (eVar 1) aNil)) (aa0 (eVar 9) aNil)))))
  (sIf (qOr (qB (e2 φNe (bn0 C "behind" (J6 C) (eVar 3) (aa0 (bn0 C "start" (J1 C) (eVar 3) aNil) (aa0 (eVar 9) aNil))) (bVar 10))) (qB (e2 φNe (cv0 C "may" (V2 C) (eVar 3) (aa0 (eVar 10) aNil)) (eFnF (Y4 C) (aa0 (eVar 1) (aa0 (eVar 10) aNil)))))) (sRet false (eC (.bl false))) sNx))
def kU0 (C : Addr) : En -> Option Fl := (sFor (iLst (e2 φIx (bVar 4) (eC (.int 0)))) (am0 9) (Qb0 C))
def kM0 (C : Addr) : En -> Option Fl := (sRet false (eC (.bl true)))
def kA0 (C : Addr) : En -> Option T := (eFnF (Y4 C) (aa0 (eVar 1) (aa0 (eFn (Y2 C) (aa0 (eVar 1) aNil)) aNil)))
def jN0 (C : Addr) : En -> Option T := (cv0 C "may" (V2 C) (eVar 3) (aa0 (bn0 C "start" (J1 C) (eVar 3) aNil) aNil))
def gr0 (C : Addr) : En -> Option T := (e2 φIx (bVar 0) (eC (.int 0)))
def gH0 (C : Addr) : En -> Option (List T) := (iLst (e2 φIx (bVar 1) (eC (.int 2))))
def dx0 : En -> Option (List T) := iLst (e2 φIx (bVar 0) (eC (.int 2)))
def cH0 : En -> Option T := e2 cl0 (eP (eSlT (bVar 0) (bd0 none) (bd0 (some (eC (.int 4)))))) (eTup (aa0 (eQ (ao0 dq0 (aa0 (e2 φIx (bVar 0) (eC (.int 4))) aNil))) aNil))
def X4 : En -> Option T := eQ (ao0 dq0 (aa0 (e2 φIx (bVar 0) (eC (.int 0))) aNil))
def cO0 : En -> Option T := eP (e2 φIx (bVar 0) (eC (.int 1)))
def cP0 : En -> Option T := eQ (ao0 io0 (aa0 (e2 φIx (bVar 0) (eC (.int 3))) aNil))
structure Txt (K : PySem.W.Frag) (mg : Str -> Option Value) (C : Addr) : Prop where
 cl_Garden : Cls K C
 wh0 : NoAttr K C "bars"
 X9 : NoAttr K C "changes"
 vh0 : NoAttr K C "depth"
 Xe0 : NoAttr K C "gaps"
 yh0 : NoAttr K C "harvests"
 xh0 : NoAttr K C "soils"
 hh0 : NoAttr K C "top"
 Zh0 : NoAttr K C "wants"
 Jb0 : mg "bool" = none
 za0 : mg "dict" = none
 Kb0 : mg "int" = none
 V0 : mg "isinstance" = none
 J0 : mg "len" = none
 W2 : mg "list" = none
 qa0 : mg "max" = none
 Z8 : mg "min" = none
 Z1 : mg "range" = none
 zf0 : mg "set" = none
 qf0 : mg "str" = none
 Wb0 : mg "sum" = none
 K0 : mg "tuple" = none
 Vb0 : mg "zip" = none
 jf0 : ∃ t, mg "MOST_BEDS" = some (.int 3 t)
 Yb0 : ∃ t, mg "MOST_CHANGE" = some (.int 3 t)
 kf0 : ∃ t, mg "MOST_CROPS" = some (.int 5 t)
 wf0 : ∃ t, mg "MOST_GAP" = some (.int 3 t)
 vf0 : ∃ t, mg "MOST_HARVEST" = some (.int 1000 t)
 yf0 : ∃ t, mg "MOST_TOP" = some (.int 5 t)
 xf0 : ∃ t, mg "MOST_WANTED" = some (.int 3 t)
section
variable {P : Program} {w : World} {K : PySem.W.Frag} {mg : Str -> Option Value} {base : Heap} {C f : Addr} {fd : FuncData} {LAW : List T -> Option (Bool × T)}
theorem Qh0 : FnScope ["value", "least", "most"] ["value", "least", "most"] (af0 wa0) := ⟨rfl, rfl, rfl, by decide +kernel, rfl, by decide +kernel, by decide +kernel⟩
theorem ql0 (F : Fun K "is_within" "is_within" wa0 f fd) (T : Txt K mg C)  : FnOk P w K mg base CX0 1 f fd k5 (spP (w5 C)) := by
 have sc := Qh0
 refine aE0 F Qh0 (fun _ _ h => aD0 h) fun cdv A outer s H E FF hr => ⟨qc0 C, ?_, fun ts o t h => ay0 h⟩
 exact (ah0 (br0 (qt_w (fU0 (bC0 (dA0 (n := "bool") (x := "bool") .bool (by rfl) T.V0 (by rfl) T.Jb0 (by rfl) (ac0 (pv 0)))) (dw0 (bX0 (bC0 (dA0 (n := "int") (x := "int") .int (by rfl) T.V0 (by rfl) T.Kb0 (by rfl) (ac0 (pv 0)))))))) (ai0 (aL0 cs0)) aJ0)
   (ai0 (aL0 (lt0 jt0 jt0 o_le o_le (ac0 (pv 1)) (ac0 (pv 0)) (ac0 (pv 2))))))
theorem Jh0 : FnScope ["value", "least", "most", "what"] ["value", "least", "most", "what"] (af0 va0) := ⟨rfl, rfl, rfl, by decide +kernel, rfl, by decide +kernel, by decide +kernel⟩
theorem jl0 (F : Fun K "check_within" "check_within" va0 f fd) (T : Txt K mg C) (hf0 : aK0 P w K mg base 1 "is_within" k5 (w5 C)) : FnOk P w K mg base CX0 2 f fd Y1 (spP (Z0 C)) := by
 have sc := Jh0
 refine aE0 F Jh0 (fun _ _ h => aD0 h) fun cdv A outer s H E FF hr => ⟨jc0 C, ?_, fun ts o t h => ay0 h⟩
 exact (ai0 (br0 (bX0 (bC0 (aI0 hf0 (hr.mono (by decide)) (by rfl) (ab0 (ag0 (pv 0)) (ab0 (ag0 (pv 1)) (ab0 (ag0 (pv 2)) ak0)))))) (ai0 bx0) aJ0))
theorem Kh0 : FnScope ["name", "names"] ["name", "names"] (af0 ya0) := ⟨rfl, rfl, rfl, by decide +kernel, rfl, by decide +kernel, by decide +kernel⟩
theorem kl0 (F : Fun K "check_name" "check_name" ya0 f fd) (T : Txt K mg C)  : FnOk P w K mg base CX0 1 f fd X2 (spP (Y0 C)) := by
 have sc := Kh0
 refine aE0 F Kh0 (fun _ _ h => aD0 h) fun cdv A outer s H E FF hr => ⟨kc0 C, ?_, fun ts o t h => ay0 h⟩
 exact (ai0 (br0 (lm0 (ac0 (pv 0)) (ac0 (pv 1))) (ai0 bx0) aJ0))
theorem Wh0 : FnScope ["soils", "top", "soil"] ["soils", "top"] (af0 xa0) := ⟨rfl, rfl, rfl, by decide +kernel, rfl, by decide +kernel, by decide +kernel⟩
theorem wl0 (F : Fun K "check_beds" "check_beds" xa0 f fd) (T : Txt K mg C) (W0 : aK0 P w K mg base 2 "check_within" Y1 (Z0 C)) : FnOk P w K mg base CX0 3 f fd v5 (spP (j3 C)) := by
 have sc := Wh0
 refine aE0 F Wh0 (fun _ _ h => aD0 h) fun cdv A outer s H E FF hr => ⟨wc0 C, ?_, fun ts o t h => ay0 h⟩
 exact (ah0 (bu0 (aI0 W0 (hr.mono (by decide)) (by rfl) (ab0 (ag0 (pv 1)) (ab0 ae0 (ab0 (ca0 (by rfl) T.yf0) (ab0 bU0 ak0))))))
   (ah0 (br0 (bX0 (bC0 (dA0 (n := "list") (x := "list") .list (by rfl) T.V0 (by rfl) T.W2 (by rfl) (ac0 (pv 0))))) (ai0 bx0) aJ0)
   (ah0 (bu0 (aI0 W0 (hr.mono (by decide)) (by rfl) (ab0 (bD0 (by rfl) T.J0 (al0 (ac0 (pv 0)) ax0)) (ab0 ae0 (ab0 (ca0 (by rfl) T.jf0) (ab0 bU0 ak0))))))
   (ai0 (bE0 PassesOwn.never rfl (aY0 (ag0 (pv 0))) (by0 (as0 (i := 2) sc.nd rfl (Or.inl rfl)))
   (ai0 (bu0 (aI0 W0 (hr.mono (by decide)) (by rfl) (ab0 (ag0 (pv 2)) (ab0 ae0 (ab0 (ag0 (pv 1)) (ab0 bU0 ak0))))))))))))
theorem Vh0 : FnScope ["crop"] ["crop"] (af0 ha0) := ⟨rfl, rfl, rfl, by decide +kernel, rfl, by decide +kernel, by decide +kernel⟩
theorem vl0 (F : Fun K "check_crop" "check_crop" ha0 f fd) (T : Txt K mg C) (W0 : aK0 P w K mg base 2 "check_within" Y1 (Z0 C)) : FnOk P w K mg base CX0 3 f fd Z5 (spP (Z3 C)) := by
 have sc := Vh0
 refine aE0 F Vh0 (fun _ _ h => aD0 h) fun cdv A outer s H E FF hr => ⟨vc0 C, ?_, fun ts o t h => ay0 h⟩
 exact (ah0 (br0 (qt_w (fU0 (bX0 (bC0 (dA0 (n := "tuple") (x := "tuple") .tuple (by rfl) T.V0 (by rfl) T.K0 (by rfl) (ac0 (pv 0))))) (dw0 (eM0 (hu20 hr) (ad0 (bD0 (by rfl) T.J0 (al0 (ac0 (pv 0)) ax0))) (ad0 ae0))))) (ai0 bx0) aJ0)
   (ah0 (br0 (qt_w (fU0 (bX0 (bC0 (dA0 (n := "str") (x := "str") .str (by rfl) T.V0 (by rfl) T.qf0 (by rfl) (ad0 (av0 (ac0 (pv 0)) (ad0 ae0)))))) (dw0 (gc0 (hu20 hr) (ad0 (av0 (ac0 (pv 0)) (ad0 ae0))) (ad0 bU0))))) (ai0 bx0) aJ0)
   (ah0 (bu0 (aI0 W0 (hr.mono (by decide)) (by rfl) (ab0 (av0 (ac0 (pv 0)) (ad0 ae0)) (ab0 (oI0 (ad0 (ca0 (by rfl) T.Yb0))) (ab0 (ca0 (by rfl) T.Yb0) (ab0 bU0 ak0))))))
   (ah0 (bu0 (aI0 W0 (hr.mono (by decide)) (by rfl) (ab0 (av0 (ac0 (pv 0)) (ad0 ae0)) (ab0 ae0 (ab0 (ca0 (by rfl) T.vf0) (ab0 bU0 ak0))))))
   (ah0 (bu0 (aI0 W0 (hr.mono (by decide)) (by rfl) (ab0 (av0 (ac0 (pv 0)) (ad0 ae0)) (ab0 ae0 (ab0 (ca0 (by rfl) T.wf0) (ab0 bU0 ak0))))))
   (ai0 (br0 (bX0 (bC0 (dA0 (n := "list") (x := "list") .list (by rfl) T.V0 (by rfl) T.W2 (by rfl) (ad0 (av0 (ac0 (pv 0)) (ad0 ae0)))))) (ai0 bx0) aJ0)))))))
theorem Yh0 : FnScope ["crops"] ["crops"] (af0 V8) := ⟨rfl, rfl, rfl, by decide +kernel, rfl, by decide +kernel, by decide +kernel⟩
theorem yl0 (F : Fun K "names_of" "names_of" V8 f fd) (T : Txt K mg C)  : FnOk P w K mg base CX0 1 f fd Q3 (spP (Q1 C)) := by
 have sc := Yh0
 refine aE0 F Yh0 (fun _ _ h => aD0 h) fun cdv A outer s H E FF hr => ⟨xc0 C, ?_, fun ts o t h => ay0 h⟩
 exact (ai0 (dZ0 (bg0 rfl (own := ["crop"]) (bN0 yc0 (af0 V8) rfl rfl (by decide +kernel)) (aY0 (ag0 (pv 0))) aV0 (fun _ _ _ _ => (as0 (i := 0) (bH0 ((["crop"] : List Str) ++ hide ["crop"] yc0) rfl (by decide +kernel)) rfl (Or.inl rfl))) (fun _ _ _ _ => bq0) (fun _ _ _ _ => (av0 (ac0 (pv 0)) (ad0 ae0))))))
theorem Xh0 : FnScope ["crops", "crop", "names", "name"] ["crops"] (af0 Za0) := ⟨rfl, rfl, rfl, by decide +kernel, rfl, by decide +kernel, by decide +kernel⟩
theorem xl0 (F : Fun K "check_crops" "check_crops" Za0 f fd) (T : Txt K mg C) (Zf0 : aK0 P w K mg base 3 "check_crop" Z5 (Z3 C)) (Q8 : aK0 P w K mg base 1 "check_name" X2 (Y0 C)) (W0 : aK0 P w K mg base 2 "check_within" Y1 (Z0 C)) (J8 : aK0 P w K mg base 1 "names_of" Q3 (Q1 C)) : FnOk P w K mg base CX0 4 f fd Q5 (spP (J3 C)) := by
 have sc := Xh0
 refine aE0 F Xh0 (fun _ _ h => aD0 h) fun cdv A outer s H E FF hr => ⟨Zc0 C, ?_, fun ts o t h => ay0 h⟩
 exact (ah0 (br0 (bX0 (bC0 (dA0 (n := "list") (x := "list") .list (by rfl) T.V0 (by rfl) T.W2 (by rfl) (ac0 (pv 0))))) (ai0 bx0) aJ0)
   (ah0 (bu0 (aI0 W0 (hr.mono (by decide)) (by rfl) (ab0 (bD0 (by rfl) T.J0 (al0 (ac0 (pv 0)) ax0)) (ab0 ae0 (ab0 (ca0 (by rfl) T.kf0) (ab0 bU0 ak0))))))
   (ah0 (bE0 PassesOwn.never rfl (aY0 (ag0 (pv 0))) (by0 (as0 (i := 1) sc.nd rfl (Or.inl rfl)))
   (ai0 (bu0 (aI0 Zf0 (hr.mono (by decide)) (by rfl) (ab0 (ag0 (pv 1)) ak0)))))
   (ah0 (bc0 (i := 2) sc.nd rfl (Or.inl rfl) (cz0 (dv0 J8 (hr.mono (by decide)) (by rfl) (ab0 (ag0 (pv 0)) ak0))))
   (ah0 (br0 (eM0 (hu20 hr) (ad0 (ks0 rfl (by rfl) T.J0 (by rfl) T.zf0 (ac0 (pv 2)))) (ad0 (bD0 (by rfl) T.J0 (al0 (ac0 (pv 2)) ax0)))) (ai0 bx0) aJ0)
   (ai0 (bE0 PassesOwn.never rfl (aY0 (ag0 (pv 0))) (by0 (as0 (i := 1) sc.nd rfl (Or.inl rfl)))
   (ai0 (bE0 PassesOwn.never rfl (aY0 (av0 (ac0 (pv 1)) (ad0 ae0))) (by0 (as0 (i := 3) sc.nd rfl (Or.inl rfl)))
   (ai0 (bu0 (aI0 Q8 (hr.mono (by decide)) (by rfl) (ab0 (ag0 (pv 3)) (ab0 (ag0 (pv 2)) ak0))))))))))))))
theorem zi0 : FnScope ["wants", "names", "name", "pair"] ["wants", "names"] (af0 Qa0) := ⟨rfl, rfl, rfl, by decide +kernel, rfl, by decide +kernel, by decide +kernel⟩
theorem hl0 (F : Fun K "check_wants" "check_wants" Qa0 f fd) (T : Txt K mg C) (Q8 : aK0 P w K mg base 1 "check_name" X2 (Y0 C)) (W0 : aK0 P w K mg base 2 "check_within" Y1 (Z0 C)) : FnOk P w K mg base CX0 3 f fd J5 (spP (K3 C)) := by
 have sc := zi0
 refine aE0 F zi0 (fun _ _ h => aD0 h) fun cdv A outer s H E FF hr => ⟨Qc0 C, ?_, fun ts o t h => ay0 h⟩
 exact (ah0 (br0 (bX0 (bC0 (dA0 (n := "dict") (x := "dict") .dict (by rfl) T.V0 (by rfl) T.za0 (by rfl) (ac0 (pv 0))))) (ai0 bx0) aJ0)
   (ai0 (bE0 PassesOwn.never rfl (gU0 (ag0 (pv 0))) (gl0 (eu0 rfl (bm0 (as0 (i := 2) sc.nd rfl (Or.inl rfl)) (bm0 (as0 (i := 3) sc.nd rfl (Or.inl rfl)) dn0))))
   (ah0 (bu0 (aI0 Q8 (hr.mono (by decide)) (by rfl) (ab0 (ag0 (pv 2)) (ab0 (ag0 (pv 1)) ak0))))
   (ah0 (br0 (qt_w (fU0 (bX0 (bC0 (dA0 (n := "tuple") (x := "tuple") .tuple (by rfl) T.V0 (by rfl) T.K0 (by rfl) (ac0 (pv 3))))) (dw0 (eM0 (hu20 hr) (ad0 (bD0 (by rfl) T.J0 (al0 (ac0 (pv 3)) ax0))) (ad0 ae0))))) (ai0 bx0) aJ0)
   (ah0 (bu0 (aI0 W0 (hr.mono (by decide)) (by rfl) (ab0 (av0 (ac0 (pv 3)) (ad0 ae0)) (ab0 ae0 (ab0 (ca0 (by rfl) T.xf0) (ab0 bU0 ak0))))))
   (ai0 (bu0 (aI0 W0 (hr.mono (by decide)) (by rfl) (ab0 (av0 (ac0 (pv 3)) (ad0 ae0)) (ab0 ae0 (ab0 (av0 (ac0 (pv 3)) (ad0 ae0)) (ab0 bU0 ak0)))))))))))))
theorem qi0 : FnScope ["some", "names"] ["some", "names"] (af0 Y8) := ⟨rfl, rfl, rfl, by decide +kernel, rfl, by decide +kernel, by decide +kernel⟩
theorem Zl0 (F : Fun K "numbers_of" "numbers_of" Y8 f fd) (T : Txt K mg C)  : FnOk P w K mg base CX0 1 f fd K5 (spP (X1 C)) := by
 have sc := qi0
 refine aE0 F qi0 (fun _ _ h => aD0 h) fun cdv A outer s H E FF hr => ⟨Kc0 C, ?_, fun ts o t h => ay0 h⟩
 exact (ai0 (aL0 (bs0 (by rfl) T.K0 (al0 (bG0 (bg0 rfl (own := ["name"]) (bN0 Jc0 (af0 Y8) rfl rfl (by decide +kernel)) (aY0 (ag0 (pv 0))) aV0 (fun _ _ _ _ => (as0 (i := 0) (bH0 ((["name"] : List Str) ++ hide ["name"] Jc0) rfl (by decide +kernel)) rfl (Or.inl rfl))) (fun _ _ _ _ => bq0) (fun _ _ _ _ => (gD0 (ac0 (pv 2)) (al0 (ac0 (pv 0)) ax0))))) ax0))))
theorem ji0 : FnScope ["rows", "crops", "longer", "row"] ["rows", "crops"] (af0 X8) := ⟨rfl, rfl, rfl, by decide +kernel, rfl, by decide +kernel, by decide +kernel⟩
theorem Ql0 (F : Fun K "lengthened" "lengthened" X8 f fd) (T : Txt K mg C)  : FnOk P w K mg base CX0 1 f fd W5 (spP (W3 C)) := by
 have sc := ji0
 refine aE0 F ji0 (fun _ _ h => aD0 h) fun cdv A outer s H E FF hr => ⟨Vc0 C, ?_, fun ts o t h => ay0 h⟩
 exact (ah0 (dJ0 (i := 2) sc.nd rfl (Or.inl rfl) (cb0 ak0))
   (ah0 (bE0 PassesOwn.never rfl (aY0 (ag0 (pv 0))) (by0 (as0 (i := 3) sc.nd rfl (Or.inr rfl)))
   (ai0 (jI0 (pv 2) (cz0 (bg0 rfl (own := ["crop"]) (bN0 Wc0 (af0 X8) rfl rfl (by decide +kernel)) (aY0 (ag0 (pv 1))) aV0 (fun _ _ _ _ => (as0 (i := 0) (bH0 ((["crop"] : List Str) ++ hide ["crop"] Wc0) rfl (by decide +kernel)) rfl (Or.inl rfl))) (fun _ _ _ _ => bq0) (fun _ _ _ _ => (ed0 (ac0 (pv 4)) (ad0 (bF0 (ab0 (ag0 (pv 0)) ak0))))))))))
   (ai0 (gg0 (pv 2)))))
theorem ki0 : FnScope ["self", "soils", "top", "crops", "wants", "names"] ["self", "soils", "top", "crops", "wants"] (af0 j2) := ⟨rfl, rfl, rfl, by decide +kernel, rfl, by decide +kernel, by decide +kernel⟩
theorem Jl0 (F : Fun K "__init__" "Garden.__init__" j2 f fd) (T : Txt K mg C) (Qf0 : aK0 P w K mg base 3 "check_beds" v5 (j3 C)) (Jf0 : aK0 P w K mg base 4 "check_crops" Q5 (J3 C)) (Kf0 : aK0 P w K mg base 3 "check_wants" J5 (K3 C)) (J8 : aK0 P w K mg base 1 "names_of" Q3 (Q1 C)) (Wf0 : aK0 P w K mg base 1 "numbers_of" K5 (X1 C)) : FnOk P w K mg base CX0 5 f fd V5 (spI C (Y5 C)) := by
 have sc := ki0
 refine mJ0 (N := ["soils", "top", "crops", "wants", "names"]) F ki0 (fun _ _ h => mZ0 h) fun cdv A outer s H E Y hr => ⟨Yc0 C, ?_, fun ts r h => lV0 h⟩
 exact (ah0 (bu0 (aI0 Qf0 (hr.mono (by decide)) (by rfl) (ab0 (ag0 (pv 1)) (ab0 (ag0 (pv 2)) ak0))))
   (ah0 (bu0 (aI0 Jf0 (hr.mono (by decide)) (by rfl) (ab0 (ag0 (pv 3)) ak0)))
   (ah0 (bc0 (i := 5) sc.nd rfl (Or.inr rfl) (cz0 (dv0 J8 (hr.mono (by decide)) (by rfl) (ab0 (ag0 (pv 3)) ak0))))
   (ah0 (bu0 (aI0 Kf0 (hr.mono (by decide)) (by rfl) (ab0 (ag0 (pv 4)) (ab0 (ag0 (pv 5)) ak0))))
   (ah0 (cu0 (pv 0) T.cl_Garden T.xh0 (bs0 (by rfl) T.K0 (al0 (ac0 (pv 1)) ax0)))
   (ah0 (cu0 (pv 0) T.cl_Garden T.hh0 (ag0 (pv 2)))
   (ah0 (cu0 (pv 0) T.cl_Garden T.X9 (bs0 (by rfl) T.K0 (al0 (bG0 (bg0 rfl (own := ["crop"]) (bN0 X0 (af0 j2) rfl rfl (by decide +kernel)) (aY0 (ag0 (pv 3))) aV0 (fun _ _ _ _ => (as0 (i := 0) (bH0 ((["crop"] : List Str) ++ hide ["crop"] X0) rfl (by decide +kernel)) rfl (Or.inl rfl))) (fun _ _ _ _ => bq0) (fun _ _ _ _ => (av0 (ac0 (pv 0)) (ad0 ae0))))) ax0)))
   (ah0 (cu0 (pv 0) T.cl_Garden T.yh0 (bs0 (by rfl) T.K0 (al0 (bG0 (bg0 rfl (own := ["crop"]) (bN0 X0 (af0 j2) rfl rfl (by decide +kernel)) (aY0 (ag0 (pv 3))) aV0 (fun _ _ _ _ => (as0 (i := 0) (bH0 ((["crop"] : List Str) ++ hide ["crop"] X0) rfl (by decide +kernel)) rfl (Or.inl rfl))) (fun _ _ _ _ => bq0) (fun _ _ _ _ => (av0 (ac0 (pv 0)) (ad0 ae0))))) ax0)))
   (ah0 (cu0 (pv 0) T.cl_Garden T.Xe0 (bs0 (by rfl) T.K0 (al0 (bG0 (bg0 rfl (own := ["crop"]) (bN0 X0 (af0 j2) rfl rfl (by decide +kernel)) (aY0 (ag0 (pv 3))) aV0 (fun _ _ _ _ => (as0 (i := 0) (bH0 ((["crop"] : List Str) ++ hide ["crop"] X0) rfl (by decide +kernel)) rfl (Or.inl rfl))) (fun _ _ _ _ => bq0) (fun _ _ _ _ => (av0 (ac0 (pv 0)) (ad0 ae0))))) ax0)))
   (ah0 (cu0 (pv 0) T.cl_Garden T.wh0 (bs0 (by rfl) T.K0 (al0 (bG0 (bg0 rfl (own := ["crop"]) (bN0 X0 (af0 j2) rfl rfl (by decide +kernel)) (aY0 (ag0 (pv 3))) aV0 (fun _ _ _ _ => (as0 (i := 0) (bH0 ((["crop"] : List Str) ++ hide ["crop"] X0) rfl (by decide +kernel)) rfl (Or.inl rfl))) (fun _ _ _ _ => bq0) (fun _ _ _ _ => (aI0 Wf0 (hr.mono (by decide)) (by rfl) (ab0 (av0 (ac0 (pv 0)) (ad0 ae0)) (ab0 (ag0 (pv 6)) ak0)))))) ax0)))
   (ah0 (cu0 (pv 0) T.cl_Garden T.Zh0 (bs0 (by rfl) T.K0 (al0 (bG0 (bg0 rfl (own := ["name", "pair"]) (bN0 X0 (af0 j2) rfl rfl (by decide +kernel)) (gU0 (ag0 (pv 4))) iM0 (fun _ _ _ _ => (eu0 rfl (bm0 (as0 (i := 0) (bH0 ((["name", "pair"] : List Str) ++ hide ["name", "pair"] X0) rfl (by decide +kernel)) rfl (Or.inl rfl)) (bm0 (as0 (i := 1) (bH0 ((["name", "pair"] : List Str) ++ hide ["name", "pair"] X0) rfl (by decide +kernel)) rfl (Or.inl rfl)) dn0)))) (fun _ _ _ _ => bq0) (fun _ _ _ _ => (bF0 (ab0 (gD0 (ac0 (pv 7)) (al0 (ac0 (pv 0)) ax0)) (ab0 (av0 (ac0 (pv 1)) (ad0 ae0)) (ab0 (av0 (ac0 (pv 1)) (ad0 ae0)) ak0))))))) ax0)))
   (ai0 (cu0 (pv 0) T.cl_Garden T.vh0 (mQ0 rfl (by rfl) T.qa0 (al0 (ad0 ae0) (al0 (ad0 (mn0 rfl (by rfl) T.qa0 (al0 (ad0 (cp0 (ac0 (pv 0)) T.cl_Garden T.Xe0)) ax0))) ax0))))))))))))))))
theorem wi0 : FnScope ["self"] ["self"] (af0 z9) := ⟨rfl, rfl, rfl, by decide +kernel, rfl, by decide +kernel, by decide +kernel⟩
theorem Kl0 (F : Fun K "start" "Garden.start" z9 f fd) (T : Txt K mg C)  : FnOk P w K mg base CX0 1 f fd X5 (spP (J1 C)) := by
 have sc := wi0
 refine aE0 F wi0 (fun _ _ h => aD0 h) fun cdv A outer s H E FF hr => ⟨zd0 C, ?_, fun ts o t h => ay0 h⟩
 exact (ai0 (aL0 (bs0 (by rfl) T.K0 (al0 (bG0 (bg0 rfl (own := ["soil"]) (bN0 Xc0 (af0 z9) rfl rfl (by decide +kernel)) (el0 (cp0 (ac0 (pv 0)) T.cl_Garden T.xh0)) aV0 (fun _ _ _ _ => (as0 (i := 0) (bH0 ((["soil"] : List Str) ++ hide ["soil"] Xc0) rfl (by decide +kernel)) rfl (Or.inl rfl))) (fun _ _ _ _ => bq0) (fun _ _ _ _ => (bF0 (ab0 (ag0 (pv 0)) (ab0 (bF0 ak0) ak0)))))) ax0))))
theorem vi0 : FnScope ["self", "soil", "stood", "crop"] ["self", "soil", "stood", "crop"] (af0 Ja0) := ⟨rfl, rfl, rfl, by decide +kernel, rfl, by decide +kernel, by decide +kernel⟩
theorem Wl0 (F : Fun K "lets" "Garden.lets" Ja0 f fd) (T : Txt K mg C)  : FnOk P w K mg base CX0 1 f fd V3 (spP (W1 C)) := by
 have sc := vi0
 refine aE0 F vi0 (fun _ _ h => aD0 h) fun cdv A outer s H E FF hr => ⟨qd0 C, ?_, fun ts o t h => ay0 h⟩
 exact (ah0 (br0 (lJ0 (ad0 (bp0 (ac0 (pv 1)) (ad0 (av0 (ad0 (cp0 (ac0 (pv 0)) T.cl_Garden T.X9)) (ac0 (pv 3)))))) (ad0 ae0)) (ai0 (aL0 cs0)) aJ0)
   (ah0 (br0 (qt_in (ac0 (pv 3)) (ad0 (fJ0 (ac0 (pv 2)) cB0 (cC0 (ad0 (av0 (ad0 (cp0 (ac0 (pv 0)) T.cl_Garden T.Xe0)) (ac0 (pv 3)))))))) (ai0 (aL0 cs0)) aJ0)
   (ai0 (aL0 (se_or (se_eq (hu20 hr) (ad0 (bD0 (by rfl) T.J0 (al0 (ac0 (pv 2)) ax0))) (ad0 ae0)) (iH0 (hL0 (ad0 (av0 (ac0 (pv 2)) (ad0 ae0))) (ad0 (av0 (ad0 (cp0 (ac0 (pv 0)) T.cl_Garden T.wh0)) (ac0 (pv 3)))))))))))
theorem yi0 : FnScope ["self", "soil", "stood"] ["self", "soil", "stood"] (af0 q9) := ⟨rfl, rfl, rfl, by decide +kernel, rfl, by decide +kernel, by decide +kernel⟩
theorem Vl0 (F : Fun K "crops_for" "Garden.crops_for" q9 f fd) (T : Txt K mg C) (K8 : bL0 P w K mg base C 1 "lets" V3 (W1 C)) : FnOk P w K mg base CX0 2 f fd j6 (spP (Y3 C)) := by
 have sc := yi0
 refine aE0 F yi0 (fun _ _ h => aD0 h) fun cdv A outer s H E FF hr => ⟨kd0 C, ?_, fun ts o t h => ay0 h⟩
 exact (ai0 (dZ0 (bg0 rfl (own := ["crop"]) (bN0 jd0 (af0 q9) rfl rfl (by decide +kernel)) (bB0 (by rfl) T.Z1 (al0 (ad0 (bD0 (by rfl) T.J0 (al0 (ad0 (cp0 (ac0 (pv 0)) T.cl_Garden T.X9)) ax0))) ax0)) aV0 (fun _ _ _ _ => (as0 (i := 0) (bH0 ((["crop"] : List Str) ++ hide ["crop"] jd0) rfl (by decide +kernel)) rfl (Or.inl rfl))) (fun _ _ _ _ => (hw0 (bC0 (eK0 (ag0 (pv 1)) T.cl_Garden K8 (hr.mono (by decide)) (ab0 (ag0 (pv 2)) (ab0 (ag0 (pv 3)) (ab0 (ag0 (pv 0)) ak0))))))) (fun _ _ _ _ => (ag0 (pv 0))))))
theorem xi0 : FnScope ["self", "planting", "crop", "least", "most"] ["self", "planting"] (af0 Ka0) := ⟨rfl, rfl, rfl, by decide +kernel, rfl, by decide +kernel, by decide +kernel⟩
theorem Yl0 (F : Fun K "meets_wants" "Garden.meets_wants" Ka0 f fd) (T : Txt K mg C)  : FnOk P w K mg base CX0 1 f fd X3 (spP (Z2 C)) := by
 have sc := xi0
 refine aE0 F xi0 (fun _ _ h => aD0 h) fun cdv A outer s H E FF hr => ⟨wd0 C, ?_, fun ts o t h => ay0 h⟩
 exact (ah0 (bE0 PassesOwn.never rfl (el0 (cp0 (ac0 (pv 0)) T.cl_Garden T.Zh0)) (nu0 (eu0 rfl (bm0 (as0 (i := 2) sc.nd rfl (Or.inl rfl)) (bm0 (as0 (i := 3) sc.nd rfl (Or.inl rfl)) (bm0 (as0 (i := 4) sc.nd rfl (Or.inl rfl)) dn0)))))
   (ai0 (br0 (bX0 (hs0 jt0 jt0 o_le o_le (ac0 (pv 3)) (ad0 (iG0 (ac0 (pv 1)) (al0 (ac0 (pv 2)) ax0))) (ac0 (pv 4)))) (ai0 (aL0 cs0)) aJ0)))
   (ai0 (aL0 cs0)))
theorem hi0 : FnScope ["self", "state", "rows", "soil", "stood"] ["self", "state"] (af0 j9) := ⟨rfl, rfl, rfl, by decide +kernel, rfl, by decide +kernel, by decide +kernel⟩
theorem Xl0 (F : Fun K "may" "Garden.may" j9 f fd) (T : Txt K mg C) (Vf0 : bL0 P w K mg base C 2 "crops_for" j6 (Y3 C)) (W8 : bL0 P w K mg base C 1 "meets_wants" X3 (Z2 C)) (Yf0 : aK0 P w K mg base 1 "lengthened" W5 (W3 C)) : FnOk P w K mg base CX0 3 f fd k6 (spP (V2 C)) := by
 have sc := hi0
 refine aE0 F hi0 (fun _ _ h => aD0 h) fun cdv A outer s H E FF hr => ⟨yd0 C, ?_, fun ts o t h => ay0 h⟩
 exact (ah0 (bc0 (i := 2) sc.nd rfl (Or.inl rfl) (cz0 (cb0 (ab0 (bF0 ak0) ak0))))
   (ah0 (bE0 PassesOwn.never rfl (el0 (ag0 (pv 1))) (gl0 (eu0 rfl (bm0 (as0 (i := 3) sc.nd rfl (Or.inl rfl)) (bm0 (as0 (i := 4) sc.nd rfl (Or.inl rfl)) dn0))))
   (ai0 (bc0 (i := 2) sc.nd rfl (Or.inl rfl) (cz0 (dv0 Yf0 (hr.mono (by decide)) (by rfl) (ab0 (ag0 (pv 2)) (ab0 (cz0 (md0 (ag0 (pv 0)) T.cl_Garden Vf0 (hr.mono (by decide)) (ab0 (ag0 (pv 3)) (ab0 (ag0 (pv 4)) ak0)))) ak0)))))))
   (ai0 (dZ0 (bg0 rfl (own := ["row"]) (bN0 vd0 (af0 j9) rfl rfl (by decide +kernel)) (aY0 (ag0 (pv 2))) aV0 (fun _ _ _ _ => (as0 (i := 0) (bH0 ((["row"] : List Str) ++ hide ["row"] vd0) rfl (by decide +kernel)) rfl (Or.inl rfl))) (fun _ _ _ _ => (hw0 (bC0 (eK0 (ag0 (pv 1)) T.cl_Garden W8 (hr.mono (by decide)) (ab0 (ag0 (pv 0)) ak0))))) (fun _ _ _ _ => (ag0 (pv 0))))))))
theorem Zi0 : FnScope ["self", "soil", "stood", "crop", "row"] ["self", "soil", "stood", "crop"] (af0 Wa0) := ⟨rfl, rfl, rfl, by decide +kernel, rfl, by decide +kernel, by decide +kernel⟩
theorem zm0 (F : Fun K "bed_behind" "Garden.bed_behind" Wa0 f fd) (T : Txt K mg C)  : FnOk P w K mg base CX0 1 f fd w6 (spP (j4 C)) := by
 have sc := Zi0
 refine aE0 F Zi0 (fun _ _ h => aD0 h) fun cdv A outer s H E FF hr => ⟨xd0 C, ?_, fun ts o t h => ay0 h⟩
 exact (ah0 (bc0 (i := 4) sc.nd rfl (Or.inl rfl) (ed0 (ad0 (bF0 (ab0 (ag0 (pv 3)) ak0))) (ac0 (pv 2))))
   (ai0 (aL0 (bF0 (ab0 (fa0 rfl (by rfl) T.Z8 (al0 (ad0 (cp0 (ac0 (pv 0)) T.cl_Garden T.hh0)) (al0 (ad0 (bp0 (ac0 (pv 1)) (ad0 (av0 (ad0 (cp0 (ac0 (pv 0)) T.cl_Garden T.X9)) (ac0 (pv 3)))))) ax0))) (ab0 (fJ0 (ac0 (pv 4)) cB0 (cC0 (ad0 (cp0 (ac0 (pv 0)) T.cl_Garden T.vh0)))) ak0))))))
theorem Qi0 : FnScope ["self", "state", "planting"] ["self", "state", "planting"] (af0 w9) := ⟨rfl, rfl, rfl, by decide +kernel, rfl, by decide +kernel, by decide +kernel⟩
theorem qm0 (F : Fun K "beds_behind" "Garden.beds_behind" w9 f fd) (T : Txt K mg C) (Xf0 : bL0 P w K mg base C 1 "bed_behind" w6 (j4 C)) : FnOk P w K mg base CX0 2 f fd v6 (spP (y6 C)) := by
 have sc := Qi0
 refine aE0 F Qi0 (fun _ _ h => aD0 h) fun cdv A outer s H E FF hr => ⟨hd0 C, ?_, fun ts o t h => ay0 h⟩
 exact (ai0 (aL0 (bs0 (by rfl) T.K0 (al0 (bG0 (bg0 rfl (own := ["bed", "crop"]) (bN0 Va0 (af0 w9) rfl rfl (by decide +kernel)) (mA0 (by rfl) T.Vb0 (al0 (ac0 (pv 1)) (al0 (ac0 (pv 2)) ax0))) iM0 (fun _ _ _ _ => (eu0 rfl (bm0 (as0 (i := 0) (bH0 ((["bed", "crop"] : List Str) ++ hide ["bed", "crop"] Va0) rfl (by decide +kernel)) rfl (Or.inl rfl)) (bm0 (as0 (i := 1) (bH0 ((["bed", "crop"] : List Str) ++ hide ["bed", "crop"] Va0) rfl (by decide +kernel)) rfl (Or.inl rfl)) dn0)))) (fun _ _ _ _ => bq0) (fun _ _ _ _ => (eK0 (ag0 (pv 2)) T.cl_Garden Xf0 (hr.mono (by decide)) (ab0 (av0 (ac0 (pv 0)) (ad0 ae0)) (ab0 (av0 (ac0 (pv 0)) (ad0 ae0)) (ab0 (ag0 (pv 1)) ak0))))))) ax0))))
theorem Ji0 : FnScope ["self", "state", "planting", "bed", "crop"] ["self", "state", "planting"] (af0 Ya0) := ⟨rfl, rfl, rfl, by decide +kernel, rfl, by decide +kernel, by decide +kernel⟩
theorem jm0 (F : Fun K "fits" "Garden.fits" Ya0 f fd) (T : Txt K mg C) (K8 : bL0 P w K mg base C 1 "lets" V3 (W1 C)) (W8 : bL0 P w K mg base C 1 "meets_wants" X3 (Z2 C)) : FnOk P w K mg base CX0 2 f fd Z6 (spP (y4 C)) := by
 have sc := Ji0
 refine aE0 F Ji0 (fun _ _ h => aD0 h) fun cdv A outer s H E FF hr => ⟨Zd0 C, ?_, fun ts o t h => ay0 h⟩
 exact (ah0 (br0 (eM0 (hu20 hr) (ad0 (bD0 (by rfl) T.J0 (al0 (ac0 (pv 2)) ax0))) (ad0 (bD0 (by rfl) T.J0 (al0 (ac0 (pv 1)) ax0)))) (ai0 (aL0 cs0)) aJ0)
   (ah0 (bE0 PassesOwn.never rfl (mA0 (by rfl) T.Vb0 (al0 (ac0 (pv 1)) (al0 (ac0 (pv 2)) ax0))) (gl0 (eu0 rfl (bm0 (as0 (i := 3) sc.nd rfl (Or.inl rfl)) (bm0 (as0 (i := 4) sc.nd rfl (Or.inl rfl)) dn0))))
   (ah0 (br0 (bX0 (hs0 jt0 op_lt o_le o_lt (ad0 ae0) (ac0 (pv 4)) (ad0 (bD0 (by rfl) T.J0 (al0 (ad0 (cp0 (ac0 (pv 0)) T.cl_Garden T.X9)) ax0))))) (ai0 (aL0 cs0)) aJ0)
   (ai0 (br0 (bX0 (bC0 (eK0 (ag0 (pv 0)) T.cl_Garden K8 (hr.mono (by decide)) (ab0 (av0 (ac0 (pv 3)) (ad0 ae0)) (ab0 (av0 (ac0 (pv 3)) (ad0 ae0)) (ab0 (ag0 (pv 4)) ak0)))))) (ai0 (aL0 cs0)) aJ0))))
   (ai0 (aL0 (eK0 (ag0 (pv 0)) T.cl_Garden W8 (hr.mono (by decide)) (ab0 (ag0 (pv 2)) ak0))))))
theorem Ki0 : FnScope ["self", "state", "planting"] ["self", "state", "planting"] (af0 Xa0) := ⟨rfl, rfl, rfl, by decide +kernel, rfl, by decide +kernel, by decide +kernel⟩
theorem km0 (F : Fun K "behind" "Garden.behind" Xa0 f fd) (T : Txt K mg C) (zg0 : bL0 P w K mg base C 2 "beds_behind" v6 (y6 C)) (qg0 : bL0 P w K mg base C 2 "fits" Z6 (y4 C)) : FnOk P w K mg base CX0 3 f fd Q6 (spP (J6 C)) := by
 have sc := Ki0
 refine aE0 F Ki0 (fun _ _ h => aD0 h) fun cdv A outer s H E FF hr => ⟨Qd0 C, ?_, fun ts o t h => ay0 h⟩
 exact (ah0 (br0 (bX0 (bC0 (eK0 (ag0 (pv 0)) T.cl_Garden qg0 (hr.mono (by decide)) (ab0 (ag0 (pv 1)) (ab0 (ag0 (pv 2)) ak0))))) (ai0 bx0) aJ0)
   (ai0 (aL0 (eK0 (ag0 (pv 0)) T.cl_Garden zg0 (hr.mono (by decide)) (ab0 (ag0 (pv 1)) (ab0 (ag0 (pv 2)) ak0))))))
theorem Wi0 : FnScope ["self", "planting"] ["self", "planting"] (af0 v9) := ⟨rfl, rfl, rfl, by decide +kernel, rfl, by decide +kernel, by decide +kernel⟩
theorem wm0 (F : Fun K "harvest" "Garden.harvest" v9 f fd) (T : Txt K mg C)  : FnOk P w K mg base CX0 1 f fd K6 (spP (W6 C)) := by
 have sc := Wi0
 refine aE0 F Wi0 (fun _ _ h => aD0 h) fun cdv A outer s H E FF hr => ⟨Kd0 C, ?_, fun ts o t h => ay0 h⟩
 exact (ai0 (aL0 (mq0 rfl (by rfl) T.Wb0 (al0 (bG0 (bg0 rfl (own := ["crop"]) (bN0 Jd0 (af0 v9) rfl rfl (by decide +kernel)) (el0 (ag0 (pv 1))) aV0 (fun _ _ _ _ => (as0 (i := 0) (bH0 ((["crop"] : List Str) ++ hide ["crop"] Jd0) rfl (by decide +kernel)) rfl (Or.inl rfl))) (fun _ _ _ _ => bq0) (fun _ _ _ _ => (av0 (ad0 (cp0 (ac0 (pv 1)) T.cl_Garden T.yh0)) (ac0 (pv 0)))))) ax0))))
theorem Vi0 : FnScope ["script", "k"] ["script", "k"] (af0 zb0) := ⟨rfl, rfl, rfl, by decide +kernel, rfl, by decide +kernel, by decide +kernel⟩
theorem vm0 (F : Fun K "_law_cell_at" "_law_cell_at" zb0 f fd) (T : Txt K mg C)  : FnOk P w K mg base CX0 1 f fd V6 (spP (Z4 C)) := by
 have sc := Vi0
 refine aE0 F Vi0 (fun _ _ h => aD0 h) fun cdv A outer s H E FF hr => ⟨Wd0 C, ?_, fun ts o t h => ay0 h⟩
 exact (ah0 (br0 (lJ0 (ac0 (pv 1)) (ad0 (bD0 (by rfl) T.J0 (al0 (ac0 (pv 0)) ax0)))) (ai0 (aL0 (av0 (ac0 (pv 0)) (ac0 (pv 1))))) aJ0)
   (ai0 (aL0 ae0)))
theorem Yi0 : FnScope ["script", "k"] ["script", "k"] (af0 qb0) := ⟨rfl, rfl, rfl, by decide +kernel, rfl, by decide +kernel, by decide +kernel⟩
theorem ym0 (F : Fun K "_law_draw" "_law_draw" qb0 f fd) (T : Txt K mg C) (jg0 : aK0 P w K mg base 1 "_law_cell_at" V6 (Z4 C)) : FnOk P w K mg base CX0 2 f fd V1 (spP (j0 C)) := by
 have sc := Yi0
 refine aE0 F Yi0 (fun _ _ h => aD0 h) fun cdv A outer s H E FF hr => ⟨Vd0 C, ?_, fun ts o t h => ay0 h⟩
 exact (ai0 (aL0 (bA0 (ad0 (dK0 (ad0 (bp0 (ad0 (aI0 jg0 (hr.mono (by decide)) (by rfl) (ab0 (ag0 (pv 0)) (ab0 (bA0 (ac0 (pv 1)) (ad0 ae0)) ak0)))) (ad0 (dK0 (ad0 ae0) (ac0 (pv 1)))))) (ad0 (bp0 (ad0 ae0) (ad0 (dK0 (ad0 ae0) (ac0 (pv 1)))))))) (ad0 ae0))))
theorem Xi0 : FnScope ["found"] ["found"] (af0 jb0) := ⟨rfl, rfl, rfl, by decide +kernel, rfl, by decide +kernel, by decide +kernel⟩
theorem xm0 (F : Fun K "_law_whole" "_law_whole" jb0 f fd) (T : Txt K mg C)  : FnOk P w K mg base CX0 1 f fd Y6 (spP (y9 C)) := by
 have sc := Xi0
 refine aE0 F Xi0 (fun _ _ h => aD0 h) fun cdv A outer s H E FF hr => ⟨qh0 C, ?_, fun ts o t h => ay0 h⟩
 exact (ai0 (aL0 (oC0 (dA0 (n := "int") (x := "int") .int (by rfl) T.V0 (by rfl) T.Kb0 (by rfl) (ac0 (pv 0))) (iH0 (oA0 (dA0 (n := "bool") (x := "bool") .bool (by rfl) T.V0 (by rfl) T.Jb0 (by rfl) (ac0 (pv 0))))))))
theorem zj0 : FnScope ["script", "k", "names", "gaps", "bars", "j", "harvest", "change"] ["script", "k", "names", "gaps"] (af0 kb0) := ⟨rfl, rfl, rfl, by decide +kernel, rfl, by decide +kernel, by decide +kernel⟩
theorem hm0 (F : Fun K "_law_crop" "_law_crop" kb0 f fd) (T : Txt K mg C) (Q0 : aK0 P w K mg base 2 "_law_draw" V1 (j0 C)) : FnOk P w K mg base CX0 3 f fd X6 (spP (Q4 C)) := by
 have sc := zj0
 refine aE0 F zj0 (fun _ _ h => aD0 h) fun cdv A outer s H E FF hr => ⟨Yd0 C, ?_, fun ts o t h => ay0 h⟩
 exact (ah0 (dJ0 (i := 4) sc.nd rfl (Or.inl rfl) (cb0 ak0))
   (ah0 (bE0 PassesOwn.never rfl (bB0 (by rfl) T.Z1 (al0 (ad0 (bD0 (by rfl) T.J0 (al0 (ac0 (pv 2)) ax0))) ax0)) (by0 (as0 (i := 5) sc.nd rfl (Or.inl rfl)))
   (ai0 (br0 (gc0 (hu20 hr) (ad0 (bA0 (ad0 (aI0 Q0 (hr.mono (by decide)) (by rfl) (ab0 (ag0 (pv 0)) (ab0 (bp0 (ad0 (bp0 (ad0 ae0) (ad0 (dK0 (ad0 ae0) (ac0 (pv 1)))))) (ac0 (pv 5))) ak0)))) (ad0 ae0))) (ad0 ae0)) (ai0 (dP0 (pv 4) (av0 (ac0 (pv 2)) (ac0 (pv 5))))) aJ0)))
   (ah0 (bc0 (i := 6) sc.nd rfl (Or.inl rfl) (bA0 (ad0 (aI0 Q0 (hr.mono (by decide)) (by rfl) (ab0 (ag0 (pv 0)) (ab0 (bp0 (ad0 ae0) (ad0 (dK0 (ad0 ae0) (ac0 (pv 1))))) ak0)))) (ad0 (av0 (bG0 (cb0 (ab0 ae0 (ab0 ae0 (ab0 ae0 ak0))))) (ad0 (bA0 (ad0 (aI0 Q0 (hr.mono (by decide)) (by rfl) (ab0 (ag0 (pv 0)) (ab0 ae0 ak0)))) (ad0 ae0)))))))
   (ah0 (bc0 (i := 7) sc.nd rfl (Or.inl rfl) (pe0 (ad0 (bA0 (ad0 (aI0 Q0 (hr.mono (by decide)) (by rfl) (ab0 (ag0 (pv 0)) (ab0 (bp0 (ad0 ae0) (ad0 (dK0 (ad0 ae0) (ac0 (pv 1))))) ak0)))) (ad0 ae0))) (ad0 ae0)))
   (ai0 (iO0 4 (aL0 (bF0 (ab0 (av0 (ac0 (pv 2)) (ac0 (pv 1))) (ab0 (ag0 (pv 7)) (ab0 (ag0 (pv 6)) (ab0 (bA0 (ad0 (aI0 Q0 (hr.mono (by decide)) (by rfl) (ab0 (ag0 (pv 0)) (ab0 (bp0 (ad0 ae0) (ad0 (dK0 (ad0 ae0) (ac0 (pv 1))))) ak0)))) (ad0 (bp0 (ac0 (pv 3)) (ad0 ae0)))) (ab0 (ag0 (pv 4)) ak0)))))))))))))
theorem qj0 : FnScope ["script", "names", "beds", "wants", "k", "cell", "least"] ["script", "names", "beds"] (af0 wb0) := ⟨rfl, rfl, rfl, by decide +kernel, rfl, by decide +kernel, by decide +kernel⟩
theorem Zm0 (F : Fun K "_law_wants" "_law_wants" wb0 f fd) (T : Txt K mg C) (Q0 : aK0 P w K mg base 2 "_law_draw" V1 (j0 C)) : FnOk P w K mg base CX0 3 f fd j7 (spP (k7 C)) := by
 have sc := qj0
 refine aE0 F qj0 (fun _ _ h => aD0 h) fun cdv A outer s H E FF hr => ⟨Xd0 C, ?_, fun ts o t h => ay0 h⟩
 exact (ah0 (dJ0 (i := 3) sc.nd rfl (Or.inl rfl) nL0)
   (ah0 (bE0 PassesOwn.never rfl (bB0 (by rfl) T.Z1 (al0 (ad0 (bD0 (by rfl) T.J0 (al0 (ac0 (pv 1)) ax0))) ax0)) (by0 (as0 (i := 4) sc.nd rfl (Or.inl rfl)))
   (ah0 (bc0 (i := 5) sc.nd rfl (Or.inl rfl) (aI0 Q0 (hr.mono (by decide)) (by rfl) (ab0 (ag0 (pv 0)) (ab0 (bp0 (ad0 ae0) (ac0 (pv 4))) ak0))))
   (ai0 (br0 (gc0 (hu20 hr) (ad0 (bA0 (ac0 (pv 5)) (ad0 ae0))) (ad0 ae0)) (ah0 (bc0 (i := 6) sc.nd rfl (Or.inl rfl) (av0 (bG0 (cb0 (ab0 ae0 (ab0 ae0 (ab0 ae0 (ab0 (ag0 (pv 2)) ak0)))))) (ad0 (bA0 (ad0 (ml0 (ac0 (pv 5)) (ad0 ae0))) (ad0 ae0)))))
   (ai0 (oa0 (nn0 hr) (pv 3) (ad0 (av0 (ac0 (pv 1)) (ac0 (pv 4)))) (bF0 (ab0 (ag0 (pv 6)) (ab0 (fa0 rfl (by rfl) T.Z8 (al0 (ad0 ae0) (al0 (ad0 (bp0 (ac0 (pv 6)) (ad0 (bA0 (ad0 (ml0 (ac0 (pv 5)) (ad0 ae0))) (ad0 (bp0 (ac0 (pv 2)) (ad0 ae0))))))) ax0))) ak0)))))) aJ0))))
   (ai0 (gg0 (pv 3)))))
theorem jj0 : FnScope ["script", "beds", "mode", "top", "many", "gaps", "turn", "names", "crops", "soils"] ["script", "beds"] (af0 v7) := ⟨rfl, rfl, rfl, by decide +kernel, rfl, by decide +kernel, by decide +kernel⟩
theorem Qm0 (F : Fun K "_law_garden" "_law_garden" v7 f fd) (T : Txt K mg C) (kg0 : aK0 P w K mg base 3 "_law_crop" X6 (Q4 C)) (Q0 : aK0 P w K mg base 2 "_law_draw" V1 (j0 C)) (wg0 : aK0 P w K mg base 3 "_law_wants" j7 (k7 C)) : FnOk P w K mg base CX0 4 f fd y7 (spP (Z7 C)) := by
 have sc := jj0
 refine aE0 F jj0 (fun _ _ h => aD0 h) fun cdv A outer s H E FF hr => ⟨ze0 C, ?_, fun ts o t h => ay0 h⟩
 exact (ah0 (bc0 (i := 2) sc.nd rfl (Or.inl rfl) (bA0 (ad0 (aI0 Q0 (hr.mono (by decide)) (by rfl) (ab0 (ag0 (pv 0)) (ab0 ae0 ak0)))) (ad0 ae0)))
   (ah0 (bc0 (i := 3) sc.nd rfl (Or.inr rfl) (av0 (bG0 (cb0 (ab0 ae0 (ab0 ae0 (ab0 ae0 (ab0 ae0 (ab0 ae0 (ab0 ae0 (ab0 ae0 (ab0 ae0 ak0)))))))))) (ac0 (pv 2))))
   (ah0 (bc0 (i := 4) sc.nd rfl (Or.inl rfl) (av0 (bG0 (cb0 (ab0 ae0 (ab0 ae0 (ab0 ae0 (ab0 ae0 (ab0 ae0 (ab0 ae0 (ab0 ae0 (ab0 ae0 ak0)))))))))) (ac0 (pv 2))))
   (ah0 (bc0 (i := 5) sc.nd rfl (Or.inr rfl) (av0 (bG0 (cb0 (ab0 ae0 (ab0 ae0 (ab0 ae0 (ab0 ae0 (ab0 ae0 (ab0 ae0 (ab0 ae0 (ab0 ae0 ak0)))))))))) (ac0 (pv 2))))
   (ah0 (br0 (qt_gt (ac0 (pv 1)) (ad0 ae0)) (ah0 (bc0 (i := 3) sc.nd rfl (Or.inr rfl) ae0)
   (ah0 (bc0 (i := 4) sc.nd rfl (Or.inl rfl) (bp0 (ad0 ae0) (ad0 (bA0 (ad0 (aI0 Q0 (hr.mono (by decide)) (by rfl) (ab0 (ag0 (pv 0)) (ab0 ae0 ak0)))) (ad0 ae0)))))
   (ai0 (bc0 (i := 5) sc.nd rfl (Or.inr rfl) (bA0 (ad0 (aI0 Q0 (hr.mono (by decide)) (by rfl) (ab0 (ag0 (pv 0)) (ab0 ae0 ak0)))) (ad0 ae0)))))) aJ0)
   (ah0 (bc0 (i := 6) sc.nd rfl (Or.inl rfl) (bA0 (ad0 (aI0 Q0 (hr.mono (by decide)) (by rfl) (ab0 (ag0 (pv 0)) (ab0 ae0 ak0)))) (ad0 ae0)))
   (ah0 (bc0 (i := 7) sc.nd rfl (Or.inr rfl) (cz0 (cb0 (ab0 bU0 (ab0 bU0 (ab0 bU0 (ab0 bU0 (ab0 bU0 ak0))))))))
   (ah0 (bc0 (i := 7) sc.nd rfl (Or.inr rfl) (cz0 (jX0 (bG0 (iz0 (bG0 (jX0 (ac0 (pv 7)) (cC0 (ac0 (pv 6))) cB0)) (bG0 (jX0 (ac0 (pv 7)) cB0 (cC0 (ac0 (pv 6))))))) cB0 (cC0 (ac0 (pv 4))))))
   (ah0 (eN0 (i := 8) (own := ["k"]) sc.nd rfl (Or.inl rfl) rfl (bN0 Z9 (af0 v7) rfl rfl (by decide +kernel)) (bB0 (by rfl) T.Z1 (al0 (ac0 (pv 4)) ax0)) aV0 (fun _ _ _ _ => (as0 (i := 0) (bH0 ((["k"] : List Str) ++ hide ["k"] Z9) rfl (by decide +kernel)) rfl (Or.inl rfl))) (fun _ _ _ _ => bq0) (fun _ _ _ _ => (aI0 kg0 (hr.mono (by decide)) (by rfl) (ab0 (ag0 (pv 1)) (ab0 (ag0 (pv 0)) (ab0 (ag0 (pv 8)) (ab0 (ag0 (pv 6)) ak0)))))) (by rfl))
   (ah0 (eN0 (i := 9) (own := ["k"]) sc.nd rfl (Or.inl rfl) rfl (bN0 Z9 (af0 v7) rfl rfl (by decide +kernel)) (bB0 (by rfl) T.Z1 (al0 (ac0 (pv 1)) ax0)) aV0 (fun _ _ _ _ => (as0 (i := 0) (bH0 ((["k"] : List Str) ++ hide ["k"] Z9) rfl (by decide +kernel)) rfl (Or.inl rfl))) (fun _ _ _ _ => bq0) (fun _ _ _ _ => (bA0 (ad0 (aI0 Q0 (hr.mono (by decide)) (by rfl) (ab0 (ag0 (pv 1)) (ab0 (bp0 (ad0 ae0) (ac0 (pv 0))) ak0)))) (ad0 (bp0 (ac0 (pv 4)) (ad0 ae0))))) (by rfl))
   (ai0 (aL0 (bF0 (ab0 (ag0 (pv 9)) (ab0 (ag0 (pv 3)) (ab0 (ag0 (pv 8)) (ab0 (cz0 (dv0 wg0 (hr.mono (by decide)) (by rfl) (ab0 (ag0 (pv 0)) (ab0 (ag0 (pv 7)) (ab0 (ag0 (pv 1)) ak0))))) ak0)))))))))))))))))
theorem kj0 : FnScope ["script", "most", "cell"] ["script", "most"] (af0 vb0) := ⟨rfl, rfl, rfl, by decide +kernel, rfl, by decide +kernel, by decide +kernel⟩
theorem Jm0 (F : Fun K "_law_beds" "_law_beds" vb0 f fd) (T : Txt K mg C) (Q0 : aK0 P w K mg base 2 "_law_draw" V1 (j0 C)) : FnOk P w K mg base CX0 3 f fd Q7 (spP (J7 C)) := by
 have sc := kj0
 refine aE0 F kj0 (fun _ _ h => aD0 h) fun cdv A outer s H E FF hr => ⟨qe0 C, ?_, fun ts o t h => ay0 h⟩
 exact (ah0 (bc0 (i := 2) sc.nd rfl (Or.inl rfl) (aI0 Q0 (hr.mono (by decide)) (by rfl) (ab0 (ag0 (pv 0)) (ab0 ae0 ak0))))
   (ah0 (br0 (gc0 (hu20 hr) (ac0 (pv 1)) (ad0 ae0)) (ai0 (aL0 (bp0 (ad0 ae0) (ad0 (bA0 (ac0 (pv 2)) (ad0 ae0)))))) aJ0)
   (ah0 (br0 (qt_w (ph0 (gc0 (hu20 hr) (ac0 (pv 1)) (ad0 ae0)) (nt0 (gc0 (hu20 hr) (ad0 (bA0 (ac0 (pv 2)) (ad0 ae0))) (ad0 ae0))))) (ai0 (aL0 ae0)) aJ0)
   (ai0 (aL0 (bp0 (ad0 ae0) (ad0 (bA0 (ac0 (pv 2)) (ad0 ae0)))))))))
theorem Xb0 : FnScope ["plot", "crops"] ["plot"] (af0 J4) := ⟨rfl, rfl, rfl, by decide +kernel, rfl, by decide +kernel, by decide +kernel⟩
theorem Km0 (F : Fun K "_law_handed" "_law_handed" J4 f fd) (T : Txt K mg C)  : FnOk P w K mg base CX0 1 f fd Q2 (spP (K7 C)) := by
 have sc := Xb0
 refine aE0 F Xb0 (fun _ _ h => aD0 h) fun cdv A outer s H E FF hr => ⟨je0 C, ?_, fun ts o t h => ay0 h⟩
 exact (ah0 (eN0 (i := 1) (own := ["crop"]) sc.nd rfl (Or.inl rfl) rfl (bN0 Q9 (af0 J4) rfl rfl (by decide +kernel)) (aY0 (av0 (ac0 (pv 0)) (ad0 ae0))) aV0 (fun _ _ _ _ => (as0 (i := 0) (bH0 ((["crop"] : List Str) ++ hide ["crop"] Q9) rfl (by decide +kernel)) rfl (Or.inl rfl))) (fun _ _ _ _ => bq0) (fun _ _ _ _ => (ed0 (ad0 (fJ0 (ac0 (pv 0)) cB0 (cC0 (ad0 ae0)))) (ad0 (bF0 (ab0 (cz0 (eP0 (by rfl) T.W2 (al0 (ad0 (av0 (ac0 (pv 0)) (ad0 ae0))) ax0))) ak0))))) (by rfl))
   (ai0 (dZ0 (cb0 (ab0 (cz0 (eP0 (by rfl) T.W2 (al0 (ad0 (av0 (ac0 (pv 0)) (ad0 ae0))) ax0))) (ab0 (av0 (ac0 (pv 0)) (ad0 ae0)) (ab0 (ag0 (pv 1)) (ab0 (cz0 (kX0 (by rfl) T.za0 (al0 (ad0 (av0 (ac0 (pv 0)) (ad0 ae0))) ax0))) ak0))))))))
theorem wj0 : FnScope ["plot"] ["plot"] (af0 J9) := ⟨rfl, rfl, rfl, by decide +kernel, rfl, by decide +kernel, by decide +kernel⟩
theorem Wm0 (F : Fun K "_law_memory" "_law_memory" J9 f fd) (T : Txt K mg C)  : FnOk P w K mg base CX0 1 f fd W7 (spP (K4 C)) := by
 have sc := wj0
 refine aE0 F wj0 (fun _ _ h => aD0 h) fun cdv A outer s H E FF hr => ⟨we0 C, ?_, fun ts o t h => ay0 h⟩
 exact (ai0 (aL0 (mn0 rfl (by rfl) T.qa0 (al0 (bG0 (iz0 (bG0 (cb0 (ab0 ae0 ak0))) (bG0 (bg0 rfl (own := ["crop"]) (bN0 ke0 (af0 J9) rfl rfl (by decide +kernel)) (aY0 (av0 (ac0 (pv 0)) (ad0 ae0))) aV0 (fun _ _ _ _ => (as0 (i := 0) (bH0 ((["crop"] : List Str) ++ hide ["crop"] ke0) rfl (by decide +kernel)) rfl (Or.inl rfl))) (fun _ _ _ _ => bq0) (fun _ _ _ _ => (av0 (ac0 (pv 0)) (ad0 ae0))))))) ax0))))
theorem vj0 : FnScope ["plot", "bed", "number", "crop", "k"] ["plot", "bed", "number"] (af0 yb0) := ⟨rfl, rfl, rfl, by decide +kernel, rfl, by decide +kernel, by decide +kernel⟩
theorem Vm0 (F : Fun K "_law_lets" "_law_lets" yb0 f fd) (T : Txt K mg C)  : FnOk P w K mg base CX0 1 f fd V7 (spP (J2 C)) := by
 have sc := vj0
 refine aE0 F vj0 (fun _ _ h => aD0 h) fun cdv A outer s H E FF hr => ⟨ve0 C, ?_, fun ts o t h => ay0 h⟩
 exact (ah0 (bc0 (i := 3) sc.nd rfl (Or.inl rfl) (av0 (ad0 (av0 (ac0 (pv 0)) (ad0 ae0))) (ac0 (pv 2))))
   (ah0 (br0 (lJ0 (ad0 (bp0 (ad0 (av0 (ac0 (pv 1)) (ad0 ae0))) (ad0 (av0 (ac0 (pv 3)) (ad0 ae0))))) (ad0 ae0)) (ai0 (aL0 cs0)) aJ0)
   (ah0 (bE0 PassesOwn.never rfl (bB0 (by rfl) T.Z1 (al0 (ad0 (fa0 rfl (by rfl) T.Z8 (al0 (ad0 (av0 (ac0 (pv 3)) (ad0 ae0))) (al0 (ad0 (bD0 (by rfl) T.J0 (al0 (ad0 (av0 (ac0 (pv 1)) (ad0 ae0))) ax0))) ax0)))) ax0)) (by0 (as0 (i := 4) sc.nd rfl (Or.inl rfl)))
   (ai0 (br0 (gc0 (hu20 hr) (ad0 (av0 (ad0 (av0 (ac0 (pv 1)) (ad0 ae0))) (ac0 (pv 4)))) (ac0 (pv 2))) (ai0 (aL0 cs0)) aJ0)))
   (ai0 (aL0 (se_or (se_eq (hu20 hr) (ad0 (av0 (ac0 (pv 1)) (ad0 ae0))) (ad0 (bF0 ak0))) (iH0 (hL0 (ad0 (av0 (ad0 (av0 (ad0 (av0 (ac0 (pv 0)) (ad0 ae0))) (ad0 (av0 (ad0 (av0 (ac0 (pv 1)) (ad0 ae0))) (ad0 ae0))))) (ad0 ae0))) (ad0 (av0 (ac0 (pv 3)) (ad0 ae0)))))))))))
theorem yj0 : FnScope ["plot", "planting", "names", "name"] ["plot", "planting"] (af0 K9) := ⟨rfl, rfl, rfl, by decide +kernel, rfl, by decide +kernel, by decide +kernel⟩
theorem Ym0 (F : Fun K "_law_wanted" "_law_wanted" K9 f fd) (T : Txt K mg C)  : FnOk P w K mg base CX0 1 f fd Y7 (spP (W4 C)) := by
 have sc := yj0
 refine aE0 F yj0 (fun _ _ h => aD0 h) fun cdv A outer s H E FF hr => ⟨xe0 C, ?_, fun ts o t h => ay0 h⟩
 exact (ah0 (eN0 (i := 2) (own := ["number"]) sc.nd rfl (Or.inl rfl) rfl (bN0 ye0 (af0 K9) rfl rfl (by decide +kernel)) (el0 (ag0 (pv 1))) aV0 (fun _ _ _ _ => (as0 (i := 0) (bH0 ((["number"] : List Str) ++ hide ["number"] ye0) rfl (by decide +kernel)) rfl (Or.inl rfl))) (fun _ _ _ _ => bq0) (fun _ _ _ _ => (av0 (ad0 (av0 (ad0 (av0 (ac0 (pv 1)) (ad0 ae0))) (ac0 (pv 0)))) (ad0 ae0))) (by rfl))
   (ah0 (bE0 PassesOwn.never rfl (nR0 (av0 (ac0 (pv 0)) (ad0 ae0))) (by0 (as0 (i := 3) sc.nd rfl (Or.inl rfl)))
   (ai0 (br0 (qt_w (fU0 (lJ0 (ad0 (hJ0 (ac0 (pv 2)) (al0 (ac0 (pv 3)) ax0))) (ad0 (av0 (ad0 (kJ0 (nn0 hr) (ad0 (av0 (ac0 (pv 0)) (ad0 ae0))) (ac0 (pv 3)))) (ad0 ae0)))) (dw0 (qt_gt (ad0 (hJ0 (ac0 (pv 2)) (al0 (ac0 (pv 3)) ax0))) (ad0 (av0 (ad0 (kJ0 (nn0 hr) (ad0 (av0 (ac0 (pv 0)) (ad0 ae0))) (ac0 (pv 3)))) (ad0 ae0))))))) (ai0 (aL0 cs0)) aJ0)))
   (ai0 (aL0 cs0))))
theorem xj0 : FnScope ["rows", "numbers", "longer", "row", "number"] ["rows", "numbers"] (af0 xb0) := ⟨rfl, rfl, rfl, by decide +kernel, rfl, by decide +kernel, by decide +kernel⟩
theorem Xm0 (F : Fun K "_law_longer" "_law_longer" xb0 f fd) (T : Txt K mg C)  : FnOk P w K mg base CX0 1 f fd X7 (spP (V4 C)) := by
 have sc := xj0
 refine aE0 F xj0 (fun _ _ h => aD0 h) fun cdv A outer s H E FF hr => ⟨he0 C, ?_, fun ts o t h => ay0 h⟩
 exact (ah0 (dJ0 (i := 2) sc.nd rfl (Or.inl rfl) (cb0 ak0))
   (ah0 (bE0 PassesOwn.never rfl (aY0 (ag0 (pv 0))) (by0 (as0 (i := 3) sc.nd rfl (Or.inl rfl)))
   (ai0 (bE0 PassesOwn.never rfl (aY0 (ag0 (pv 1))) (by0 (as0 (i := 4) sc.nd rfl (Or.inl rfl)))
   (ai0 (dP0 (pv 2) (ed0 (ac0 (pv 3)) (ad0 (bF0 (ab0 (ag0 (pv 4)) ak0)))))))))
   (ai0 (gg0 (pv 2)))))
theorem hj0 : FnScope ["plot", "state", "rows", "bed"] ["plot", "state"] (af0 z8) := ⟨rfl, rfl, rfl, by decide +kernel, rfl, by decide +kernel, by decide +kernel⟩
theorem zn0 (F : Fun K "_law_may" "_law_may" z8 f fd) (T : Txt K mg C) (vg0 : aK0 P w K mg base 1 "_law_lets" V7 (J2 C)) (yg0 : aK0 P w K mg base 1 "_law_longer" X7 (V4 C)) (xg0 : aK0 P w K mg base 1 "_law_wanted" Y7 (W4 C)) : FnOk P w K mg base CX0 2 f fd q8 (spP (Y4 C)) := by
 have sc := hj0
 refine aE0 F hj0 (fun _ _ h => aD0 h) fun cdv A outer s H E FF hr => ⟨Ze0 C, ?_, fun ts o t h => ay0 h⟩
 exact (ah0 (bc0 (i := 2) sc.nd rfl (Or.inl rfl) (cz0 (cb0 (ab0 (bF0 ak0) ak0))))
   (ah0 (bE0 PassesOwn.never rfl (el0 (ag0 (pv 1))) (by0 (as0 (i := 3) sc.nd rfl (Or.inr rfl)))
   (ai0 (bc0 (i := 2) sc.nd rfl (Or.inl rfl) (cz0 (dv0 yg0 (hr.mono (by decide)) (by rfl) (ab0 (ag0 (pv 2)) (ab0 (cz0 (bg0 rfl (own := ["number"]) (bN0 W9 (af0 z8) rfl rfl (by decide +kernel)) (bB0 (by rfl) T.Z1 (al0 (ad0 (bD0 (by rfl) T.J0 (al0 (ad0 (av0 (ac0 (pv 0)) (ad0 ae0))) ax0))) ax0)) aV0 (fun _ _ _ _ => (as0 (i := 0) (bH0 ((["number"] : List Str) ++ hide ["number"] W9) rfl (by decide +kernel)) rfl (Or.inl rfl))) (fun _ _ _ _ => (hw0 (bC0 (aI0 vg0 (hr.mono (by decide)) (by rfl) (ab0 (ag0 (pv 1)) (ab0 (ag0 (pv 4)) (ab0 (ag0 (pv 0)) ak0))))))) (fun _ _ _ _ => (ag0 (pv 0))))) ak0)))))))
   (ai0 (dZ0 (bg0 rfl (own := ["row"]) (bN0 W9 (af0 z8) rfl rfl (by decide +kernel)) (aY0 (ag0 (pv 2))) aV0 (fun _ _ _ _ => (as0 (i := 0) (bH0 ((["row"] : List Str) ++ hide ["row"] W9) rfl (by decide +kernel)) rfl (Or.inl rfl))) (fun _ _ _ _ => (hw0 (bC0 (aI0 xg0 (hr.mono (by decide)) (by rfl) (ab0 (ag0 (pv 1)) (ab0 (ag0 (pv 0)) ak0)))))) (fun _ _ _ _ => (ag0 (pv 0))))))))
theorem Zj0 : FnScope ["plot", "state", "planting", "beds", "k", "soil"] ["plot", "state", "planting"] (af0 hb0) := ⟨rfl, rfl, rfl, by decide +kernel, rfl, by decide +kernel, by decide +kernel⟩
theorem qn0 (F : Fun K "_law_behind" "_law_behind" hb0 f fd) (T : Txt K mg C) (hg0 : aK0 P w K mg base 1 "_law_memory" W7 (K4 C)) : FnOk P w K mg base CX0 2 f fd j8 (spP (k8 C)) := by
 have sc := Zj0
 refine aE0 F Zj0 (fun _ _ h => aD0 h) fun cdv A outer s H E FF hr => ⟨Qe0 C, ?_, fun ts o t h => ay0 h⟩
 exact (ah0 (dJ0 (i := 3) sc.nd rfl (Or.inl rfl) (cb0 ak0))
   (ah0 (bE0 PassesOwn.never rfl (bB0 (by rfl) T.Z1 (al0 (ad0 (bD0 (by rfl) T.J0 (al0 (ac0 (pv 1)) ax0))) ax0)) (by0 (as0 (i := 4) sc.nd rfl (Or.inl rfl)))
   (ah0 (bc0 (i := 5) sc.nd rfl (Or.inl rfl) (fa0 rfl (by rfl) T.Z8 (al0 (ad0 (av0 (ac0 (pv 0)) (ad0 ae0))) (al0 (ad0 (bp0 (ad0 (av0 (ad0 (av0 (ac0 (pv 1)) (ac0 (pv 4)))) (ad0 ae0))) (ad0 (av0 (ad0 (av0 (ad0 (av0 (ac0 (pv 0)) (ad0 ae0))) (ad0 (av0 (ac0 (pv 2)) (ac0 (pv 4)))))) (ad0 ae0))))) ax0))))
   (ai0 (dP0 (pv 3) (bF0 (ab0 (ag0 (pv 5)) (ab0 (fJ0 (ad0 (ed0 (ad0 (bF0 (ab0 (av0 (ac0 (pv 2)) (ac0 (pv 4))) ak0))) (ad0 (av0 (ad0 (av0 (ac0 (pv 1)) (ac0 (pv 4)))) (ad0 ae0))))) cB0 (cC0 (ad0 (aI0 hg0 (hr.mono (by decide)) (by rfl) (ab0 (ag0 (pv 0)) ak0))))) ak0)))))))
   (ai0 (aL0 (bs0 (by rfl) T.K0 (al0 (ac0 (pv 3)) ax0))))))
theorem Qj0 : FnScope ["plot"] ["plot"] (af0 V9) := ⟨rfl, rfl, rfl, by decide +kernel, rfl, by decide +kernel, by decide +kernel⟩
theorem jn0 (F : Fun K "_law_start" "_law_start" V9 f fd) (T : Txt K mg C)  : FnOk P w K mg base CX0 1 f fd v8 (spP (Y2 C)) := by
 have sc := Qj0
 refine aE0 F Qj0 (fun _ _ h => aD0 h) fun cdv A outer s H E FF hr => ⟨Ke0 C, ?_, fun ts o t h => ay0 h⟩
 exact (ai0 (aL0 (bs0 (by rfl) T.K0 (al0 (bG0 (bg0 rfl (own := ["soil"]) (bN0 Je0 (af0 V9) rfl rfl (by decide +kernel)) (aY0 (av0 (ac0 (pv 0)) (ad0 ae0))) aV0 (fun _ _ _ _ => (as0 (i := 0) (bH0 ((["soil"] : List Str) ++ hide ["soil"] Je0) rfl (by decide +kernel)) rfl (Or.inl rfl))) (fun _ _ _ _ => bq0) (fun _ _ _ _ => (bF0 (ab0 (ag0 (pv 0)) (ab0 (bF0 ak0) ak0)))))) ax0))))
theorem Jj0 : FnScope ["plot", "planting"] ["plot", "planting"] (af0 Y9) := ⟨rfl, rfl, rfl, by decide +kernel, rfl, by decide +kernel, by decide +kernel⟩
theorem kn0 (F : Fun K "_law_gain" "_law_gain" Y9 f fd) (T : Txt K mg C)  : FnOk P w K mg base CX0 1 f fd y8 (spP (h8 C)) := by
 have sc := Jj0
 refine aE0 F Jj0 (fun _ _ h => aD0 h) fun cdv A outer s H E FF hr => ⟨Ve0 C, ?_, fun ts o t h => ay0 h⟩
 exact (ai0 (aL0 (mq0 rfl (by rfl) T.Wb0 (al0 (bG0 (bg0 rfl (own := ["number"]) (bN0 We0 (af0 Y9) rfl rfl (by decide +kernel)) (el0 (ag0 (pv 1))) aV0 (fun _ _ _ _ => (as0 (i := 0) (bH0 ((["number"] : List Str) ++ hide ["number"] We0) rfl (by decide +kernel)) rfl (Or.inl rfl))) (fun _ _ _ _ => bq0) (fun _ _ _ _ => (av0 (ad0 (av0 (ad0 (av0 (ac0 (pv 1)) (ad0 ae0))) (ac0 (pv 0)))) (ad0 ae0))))) ax0))))
theorem Kj0 : FnScope ["script", "plot", "handed", "garden", "due", "names", "crop", "planting", "found", "row", "state"] ["script"] (af0 j1) := ⟨rfl, rfl, rfl, by decide +kernel, rfl, by decide +kernel, by decide +kernel⟩
theorem ea0 (F : Fun K "_law_handed" "_law_handed" J4 f fd) (T : Txt K mg C) : FnOk P w K mg base CX0 1 f fd Q2 (spN (cY0 dx0 cH0 X4 cO0 cP0)) := by
 have sc := Xb0
 refine jY0 F Xb0 rfl rfl gx0 fun cdv A outer s H E Y hr => ?_
 exact aS0 (gp0 (i := 1) (own := ["crop"]) sc.nd rfl (Or.inl rfl) rfl (bN0 Q9 (af0 J4) rfl rfl (by decide +kernel)) (aY0 (av0 (ac0 (pv 0)) (ad0 ae0))) (fun _ _ _ _ => (as0 (i := 0) (bH0 ((["crop"] : List Str) ++ hide ["crop"] Q9) rfl (by decide +kernel)) rfl (Or.inl rfl))) (fun _ _ _ _ => bq0) (fun _ _ _ _ => (ne_op (op_catT'.or iC0) my0 (jW0 (fJ0 (ac0 (pv 0)) cB0 (cC0 (ad0 ae0)))) (oS0 (oe0 (nv0 (eP0 (by rfl) T.W2 (al0 (ad0 (av0 (ac0 (pv 0)) (ad0 ae0))) ax0))) oo0)))) (by rfl))
  (eS0 (gz0 (jG0 (bo0 (nv0 (eP0 (by rfl) T.W2 (al0 (ad0 (av0 (ac0 (pv 0)) (ad0 ae0))) ax0))) (bo0 (jW0 (av0 (ac0 (pv 0)) (ad0 ae0))) (bo0 (pv 1) (bo0 (nv0 (kX0 (by rfl) T.za0 (al0 (ad0 (av0 (ac0 (pv 0)) (ad0 ae0))) ax0))) cI0)))))))
theorem wn0 (F : Fun K "law" "law" j1 f fd) (T : Txt K mg C) (Zg0 : bL0 P w K mg base C 3 "behind" Q6 (J6 C)) (Qg0 : bL0 P w K mg base C 1 "harvest" K6 (W6 C)) (ja0 : bL0 P w K mg base C 3 "may" k6 (V2 C)) (j5 : bL0 P w K mg base C 1 "start" X5 (J1 C)) (Jg0 : aK0 P w K mg base 3 "_law_beds" Q7 (J7 C)) (Kg0 : aK0 P w K mg base 2 "_law_behind" j8 (k8 C)) (Q0 : aK0 P w K mg base 2 "_law_draw" V1 (j0 C)) (Wg0 : aK0 P w K mg base 1 "_law_gain" y8 (h8 C)) (Vg0 : aK0 P w K mg base 4 "_law_garden" y7 (Z7 C)) (Yg0 : aK0 P w K mg base 1 "_law_handed" Q2 (K7 C)) (zc0 : aK0 P w K mg base 2 "_law_may" q8 (Y4 C)) (ka0 : aK0 P w K mg base 1 "_law_start" v8 (Y2 C)) (Xg0 : aK0 P w K mg base 1 "_law_whole" Y6 (y9 C)) (zh0 : mU0 P w K mg base C 5 "Garden" V5 (Y5 C)) (DN : iJ0 P w K mg base 1 "_law_handed" Q2 (cY0 dx0 cH0 X4 cO0 cP0))
  (hg : ∀ ts r, LAW ts = some r -> r = (false, .bl true) /\ Law1 (jh0 C) (mu0 C) (kh0 C) (jL0 C) (ku0 C) (jJ0 C) (jF0 C) (iq0 C) (kU0 C) (kM0 C) (cY0 dx0 cH0 X4 cO0 cP0) (kA0 C) (jN0 C) (aN0 1 (gH0 C) (am0 0) be0 (gr0 C)) ts) : FnOk P w K mg base CX0 7 f fd Ye0 (spP LAW) := by
 have sc := Kj0
 refine nM0 F Kj0 rfl rfl hg fun cdv A outer s H E hr => ?_
 exact (aS0 (ej0 fun Y => (bc0 (i := 1) sc.nd rfl (Or.inr rfl) (aI0 Vg0 (hr.mono (by decide)) (by rfl) (ab0 (ag0 (pv 0)) (ab0 (aI0 Jg0 (hr.mono (by decide)) (by rfl) (ab0 (ag0 (pv 0)) (ab0 ae0 ak0))) ak0)))))
   (aS0 (gG0 (i := 2) sc.nd rfl (Or.inl rfl) (nf0 DN (hr.mono (by decide)) (by rfl) (bo0 (pv 1) cI0)))
   (aS0 (ej0 fun Y => (bc0 (i := 3) sc.nd rfl (Or.inl rfl) (cz0 (fe_mk zh0 (hr.mono (by decide)) (by rfl) (ab0 (av0 (ac0 (pv 2)) (ad0 ae0)) (ab0 (av0 (ac0 (pv 2)) (ad0 ae0)) (ab0 (av0 (ac0 (pv 2)) (ad0 ae0)) (ab0 (av0 (ac0 (pv 2)) (ad0 ae0)) ak0))))))))
   (aS0 (ej0 fun Y => (br0 (op0 (hu20 hr) (ac0 (pv 2)) (bG0 (dv0 Yg0 (hr.mono (by decide)) (by rfl) (ab0 (ag0 (pv 1)) ak0)))) (ai0 (aL0 cs0)) aJ0))
   (aS0 (gG0 (i := 4) sc.nd rfl (Or.inl rfl) (jG0 (bo0 (pe_ex fun Y => (dv0 zc0 (hr.mono (by decide)) (by rfl) (ab0 (ag0 (pv 1)) (ab0 (aI0 ka0 (hr.mono (by decide)) (by rfl) (ab0 (ag0 (pv 1)) ak0)) ak0)))) (bo0 (pe_ex fun Y => (md0 (ag0 (pv 3)) T.cl_Garden ja0 (hr.mono (by decide)) (ab0 (fH0 (ag0 (pv 3)) T.cl_Garden j5 (hr.mono (by decide))) ak0))) cI0))))
   (aS0 (ej0 fun Y => (gp0 (i := 5) (own := ["crop"]) sc.nd rfl (Or.inl rfl) rfl (bN0 Zb0 (af0 j1) rfl rfl (by decide +kernel)) (aY0 (av0 (ac0 (pv 1)) (ad0 ae0))) (fun _ _ _ _ => (as0 (i := 0) (bH0 ((["crop"] : List Str) ++ hide ["crop"] Zb0) rfl (by decide +kernel)) rfl (Or.inl rfl))) (fun _ _ _ _ => bq0) (fun _ _ _ _ => (av0 (ac0 (pv 0)) (ad0 ae0))) (by rfl)))
   (aS0 (mi0 PassesOwn.never rfl (kN0 (gq0 en0 (pv 2) ei0 (by intro _ _; rfl))) (as0 (i := 6) sc.nd rfl (Or.inl rfl)) (eS0 (cw0 (jV0 PySem.F.plainAttrs_list PySem.F.slot_list_extend PySem.F.type_list_extend fQ0 (gq0 en0 (pv 6) ei0 (by intro _ _; rfl)) (bo0 (pv 5) cI0)) (by rfl))))
   (aS0 (cw0 (iB0 PySem.F.plainAttrs_list PySem.F.slot_list_clear PySem.F.type_list_clear hI0 (gq0 en0 (pv 2) ei0 (by intro _ _; rfl))) (by rfl))
   (aS0 (cw0 (iB0 PySem.F.plainAttrs_list PySem.F.slot_list_clear PySem.F.type_list_clear hI0 (gq0 en0 (pv 2) ei0 (by intro _ _; rfl))) (by rfl))
   (aS0 (kT0 (cw0 (iB0 PySem.F.plainAttrs_dict PySem.F.slot_dict_clear PySem.F.type_dict_clear js0 (gq0 en0 (pv 2) ei0 (by intro _ _; rfl))) (by rfl)))
   (aS0 (ej0 fun Y => (br0 (qt_w (fU0 (bX0 (bC0 (dA0 (n := "tuple") (x := "tuple") .tuple (by rfl) T.V0 (by rfl) T.K0 (by rfl) (ad0 (fH0 (ag0 (pv 3)) T.cl_Garden j5 (hr.mono (by decide))))))) (dw0 (eM0 (hu20 hr) (ad0 (fH0 (ag0 (pv 3)) T.cl_Garden j5 (hr.mono (by decide)))) (ad0 (aI0 ka0 (hr.mono (by decide)) (by rfl) (ab0 (ag0 (pv 1)) ak0))))))) (ai0 (aL0 cs0)) aJ0))
   (aS0 (ej0 fun Y => (bc0 (i := 7) sc.nd rfl (Or.inl rfl) (bs0 (by rfl) T.K0 (al0 (bG0 (bg0 rfl (own := ["k"]) (bN0 Zb0 (af0 j1) rfl rfl (by decide +kernel)) (bB0 (by rfl) T.Z1 (al0 (ad0 (bD0 (by rfl) T.J0 (al0 (ad0 (av0 (ac0 (pv 1)) (ad0 ae0))) ax0))) ax0)) aV0 (fun _ _ _ _ => (as0 (i := 0) (bH0 ((["k"] : List Str) ++ hide ["k"] Zb0) rfl (by decide +kernel)) rfl (Or.inl rfl))) (fun _ _ _ _ => bq0) (fun _ _ _ _ => (bA0 (ad0 (aI0 Q0 (hr.mono (by decide)) (by rfl) (ab0 (ag0 (pv 1)) (ab0 (bp0 (ad0 ae0) (ac0 (pv 0))) ak0)))) (ad0 (bD0 (by rfl) T.J0 (al0 (ad0 (av0 (ac0 (pv 2)) (ad0 ae0))) ax0))))))) ax0))))
   (aS0 (ej0 fun Y => (bc0 (i := 8) sc.nd rfl (Or.inl rfl) (eK0 (ag0 (pv 3)) T.cl_Garden Qg0 (hr.mono (by decide)) (ab0 (ag0 (pv 7)) ak0))))
   (aS0 (ej0 fun Y => (br0 (qt_w (fU0 (bX0 (bC0 (aI0 Xg0 (hr.mono (by decide)) (by rfl) (ab0 (ag0 (pv 8)) ak0)))) (dw0 (eM0 (hu20 hr) (ac0 (pv 8)) (ad0 (aI0 Wg0 (hr.mono (by decide)) (by rfl) (ab0 (ag0 (pv 1)) (ab0 (ag0 (pv 7)) ak0)))))))) (ai0 (aL0 cs0)) aJ0))
   (aS0 (cw0 (jV0 PySem.F.plainAttrs_list PySem.F.slot_list_append PySem.F.type_list_append ft0 (gq0 en0 (pv 4) ei0 (by intro _ _; rfl)) (bo0 mt0 cI0)) (by rfl))
   (aS0 (ej0 fun Y => (br0 (eM0 (hu20 hr) (bG0 (md0 (ag0 (pv 3)) T.cl_Garden ja0 (hr.mono (by decide)) (ab0 (fH0 (ag0 (pv 3)) T.cl_Garden j5 (hr.mono (by decide))) ak0))) (ad0 (av0 (ac0 (pv 4)) (ad0 ae0)))) (ai0 (aL0 cs0)) aJ0))
   (aS0 (ej0 fun Y => (bE0 PassesOwn.never rfl (aY0 (av0 (ac0 (pv 4)) (ad0 ae0))) (by0 (as0 (i := 9) sc.nd rfl (Or.inl rfl)))
   (ah0 (bc0 (i := 10) sc.nd rfl (Or.inl rfl) (aI0 Kg0 (hr.mono (by decide)) (by rfl) (ab0 (ag0 (pv 1)) (ab0 (aI0 ka0 (hr.mono (by decide)) (by rfl) (ab0 (ag0 (pv 1)) ak0)) (ab0 (ag0 (pv 9)) ak0)))))
   (ai0 (br0 (qt_w (fU0 (eM0 (hu20 hr) (ad0 (eK0 (ag0 (pv 3)) T.cl_Garden Zg0 (hr.mono (by decide)) (ab0 (fH0 (ag0 (pv 3)) T.cl_Garden j5 (hr.mono (by decide))) (ab0 (ag0 (pv 9)) ak0)))) (ac0 (pv 10))) (dw0 (eM0 (hu20 hr) (bG0 (md0 (ag0 (pv 3)) T.cl_Garden ja0 (hr.mono (by decide)) (ab0 (ag0 (pv 10)) ak0))) (bG0 (dv0 zc0 (hr.mono (by decide)) (by rfl) (ab0 (ag0 (pv 1)) (ab0 (ag0 (pv 10)) ak0)))))))) (ai0 (aL0 cs0)) aJ0)))))
   (eS0 (ej0 fun Y => (aL0 cs0))))))))))))))))))))
end
end Bed1
namespace Bed1
open PySem PySem.Spec L2 L2.BD
local macro_rules | `(tactic| simp_arith! [$xs,*]) => `(tactic| simp only [sSeq, sIf, sNx, sSet, cy0, sRet, eq0, bb0, qB, qNot, qAnd, qOr, e1, e2, bVar, eVar, eC, eFld, ao0, eTup, eLst, aa0, aNil, eOr, eAnd, eNot, eSlT, eSlL, bd0, eBM, iLst, iTpl, List.getElem?_cons_zero, List.getElem?_cons_succ, Option.bind_some, Option.map_some, if_true, if_false, decide_true, decide_false, Bool.false_eq_true, ct0, φAdd, φSub, φLt, φLe, φGt, φGe, φLen, Bool.true_and, Bool.false_and, Bool.and_true, Bool.and_false, Bool.not_true, Bool.not_false, eq_self, List.set_cons_zero, List.set_cons_succ, noD, eFn, eFnF, isI, $xs,*])
local macro_rules | `(tactic| simp_arith [$xs,*]) => `(tactic| simp only [sSeq, sIf, sNx, sSet, cy0, sRet, bb0, qB, qNot, qAnd, qOr, e1, e2, bVar, eVar, eC, eFld, ao0, eTup, eLst, aa0, aNil, eOr, eAnd, eNot, eSlT, eSlL, bd0, eBM, iLst, iTpl, List.getElem?_cons_zero, List.getElem?_cons_succ, Option.bind_some, Option.map_some, if_true, if_false, decide_true, decide_false, Bool.false_eq_true, ct0, φAdd, φSub, φLt, φLe, φGt, φGe, φLen, Bool.true_and, Bool.false_and, Bool.and_true, Bool.and_false, Bool.not_true, Bool.not_false, eq_self, $xs,*])
structure Crop where
 name : Str
 change : Int
 harvest : Int
 gap : Int
 bars : List Str
structure Plot where
 soils : List Int
 top : Int
 crops : List Crop
 wants : List (Str × Int × Int)
abbrev Plot.names (p : Plot) : List Str := p.crops.map (·.name)
abbrev intT (n : Nat) : T := .int (n : Int)
def rowT (xs : List Nat) : T := .tup (xs.map intT)
def aj0 (c : Crop) : T := .tup [.str c.name, .int c.change, .int c.harvest, .int c.gap, .lst (c.bars.map .str)]
def ar0 (ws : List (Str × Int × Int)) : T := .dct (ws.map fun x => (x.1, .tup [.int x.2.1, .int x.2.2]))
def aB0 (p : Plot) : T := .tup [.lst (p.soils.map .int), .int p.top, .lst (p.crops.map aj0), ar0 p.wants]
def bedT (b : Int × List Nat) : T := .tup [.int b.1, rowT b.2]
def at0 (s : List (Int × List Nat)) : T := .tup (s.map bedT)
def num (p : Plot) (x : Str) : Nat := p.names.idxOf x
def bV0 (p : Plot) (c : Crop) : List Nat := c.bars.map (num p)
def depth (p : Plot) : Int := match p.crops.map (·.gap) with | [] => 1 | g :: gs => if maxI g gs > 1 then maxI g gs else 1
def aM0 (p : Plot) : List (Str × T) :=
  [("soils", .tup (p.soils.map .int)), ("top", .int p.top), ("changes", .tup (p.crops.map fun c => .int c.change)), ("harvests", .tup (p.crops.map fun c => .int c.harvest)),
   ("gaps", .tup (p.crops.map fun c => .int c.gap)), ("bars", .tup (p.crops.map fun c => rowT (bV0 p c))), ("wants", .tup (p.wants.map fun x => .tup [intT (num p x.1), .int x.2.1, .int x.2.2])), ("depth", .int (depth p))]
def garT (C : Addr) (p : Plot) : T := .ins C (aM0 p)
theorem og0 (p : Plot) : (aM0 p).lookup ("soils" : Str) = some (T.tup (p.soils.map .int)) := by rfl
theorem f_top (p : Plot) : (aM0 p).lookup ("top" : Str) = some (T.int p.top) := by rfl
theorem bl0 (p : Plot) : (aM0 p).lookup ("changes" : Str) = some (T.tup (p.crops.map fun c => .int c.change)) := by rfl
theorem hZ0 (p : Plot) : (aM0 p).lookup ("harvests" : Str) = some (T.tup (p.crops.map fun c => .int c.harvest)) := by rfl
theorem et0 (p : Plot) : (aM0 p).lookup ("gaps" : Str) = some (T.tup (p.crops.map fun c => .int c.gap)) := by rfl
theorem ey0 (p : Plot) : (aM0 p).lookup ("bars" : Str) = some (T.tup (p.crops.map fun c => rowT (bV0 p c))) := by rfl
theorem nw0 (p : Plot) : (aM0 p).lookup ("wants" : Str) = some (T.tup (p.wants.map fun x => .tup [intT (num p x.1), .int x.2.1, .int x.2.2])) := by rfl
theorem mH0 (p : Plot) : (aM0 p).lookup ("depth" : Str) = some (T.int (depth p)) := by rfl
theorem aF0 {N : List Str} {n : Nat} {g : En -> Option Fl} {ts : List T} {ε : En} (h : ts.length = n) (he : ce0 N ts = ε) : fnT N n g ts = (g ε).bind ct0 := by
 unfold fnT
 rw [if_pos h, he]
theorem ix_tup (f : Crop -> T) (l : List Crop) (i : Nat) (c : Crop) (h : l[i]? = some c) : φIx (.tup (l.map f)) (intT i) = some (f c) := by
 show L2.atI (l.map f) (i : Int) = _
 exact L2.atI_nat (by rw [List.getElem?_map, h]; rfl)
theorem fv0 (f : Crop -> T) (l : List Crop) (i : Nat) (c : Crop) (h : l[i]? = some c) : φIx (.lst (l.map f)) (intT i) = some (f c) := by
 show L2.atI (l.map f) (i : Int) = _
 exact L2.atI_nat (by rw [List.getElem?_map, h]; rfl)
theorem mL0 (xs : List Nat) (i : Nat) : (xs.map intT).any (fun y => eqV (toV y) (toV (intT i))) = decide (i ∈ xs) := by
 induction xs with
 | nil => simp
 | cons x xs ih =>
  rw [List.map_cons, List.any_cons, ih]
  show (((x : Int) == (i : Int)) || decide (i ∈ xs)) = _
  by_cases h : x = i
  ·subst h; simp
  ·have : ((x : Int) == (i : Int)) = false := by simp; omega
   rw [this]
   simp [Ne.symm h]
theorem gJ0 (xs : List Nat) : (xs.map intT).all aQ0 = true := by
 induction xs with
 | nil => rfl
 | cons x xs ih => rw [List.map_cons, List.all_cons, ih]; rfl
theorem mw0 (b : Bool) (i : Nat) (xs : List Nat) : φIn b (intT i) (rowT xs) = some (.bl (if b then !decide (i ∈ xs) else decide (i ∈ xs))) := by
 show (if aQ0 (intT i) && (xs.map intT).all aQ0 then _ else _) = _
 rw [gJ0, mL0]
 rfl
theorem fW0 (xs : List Nat) (k : Int) (hk : 0 <= k) : cutT (xs.map intT) none (some k) = (xs.take k.toNat).map intT := by
 unfold cutT
 rw [HT.sIx_none]
 have : HT.sIx (xs.map intT).length (xs.map intT).length (some k) = min k.toNat xs.length := by
  show (if k < 0 then _ else min k.toNat _) = _
  rw [if_neg (by omega), List.length_map]
 rw [this, List.drop_zero, Nat.sub_zero, List.map_take]
 apply List.ext_getElem?
 intro j
 simp only [List.getElem?_take]
 by_cases h1 : j < k.toNat
 ·by_cases h2 : j < xs.length
  ·rw [if_pos (by omega), if_pos h1]
  ·rw [if_neg (by omega), if_pos h1]
   exact (List.getElem?_eq_none (by rw [List.length_map]; omega)).symm
 ·rw [if_neg (by omega), if_neg h1]
def cj0 (p : Plot) (soil : Int) (stood : List Nat) (i : Nat) : Bool := match p.crops[i]? with
 | none => false
 | some c => decide (0 <= soil + c.change) && !decide (i ∈ stood.take c.gap.toNat) && (match stood with | [] => true | s :: _ => !decide (s ∈ bV0 p c))
theorem ky0 (C : Addr) (p : Plot) (soil : Int) (stood : List Nat) (i : Nat) (c : Crop) (hc : p.crops[i]? = some c) (hg : 0 <= c.gap) :
  W1 C [garT C p, .int soil, rowT stood, intT i] = some (false, .bl (cj0 p soil stood i)) := by
 have e1 : φIx (.tup (p.crops.map fun c => .int c.change)) (intT i) = some (.int c.change) := ix_tup (fun c => .int c.change) _ _ _ hc
 have e2' : φIx (.tup (p.crops.map fun c => .int c.gap)) (intT i) = some (.int c.gap) := ix_tup (fun c => .int c.gap) _ _ _ hc
 have e3 : φIx (.tup (p.crops.map fun c => rowT (bV0 p c))) (intT i) = some (rowT (bV0 p c)) := ix_tup (fun c => rowT (bV0 p c)) _ _ _ hc
 have e4 : cutT (stood.map intT) none (some c.gap) = (stood.take c.gap.toNat).map intT := fW0 _ _ hg
 unfold rowT at e3
 unfold W1 qd0
 refine (aF0 (ε := [.sh (garT C p), .sh (.int soil), .sh (rowT stood), .sh (intT i)]) rfl rfl).trans ?_
 unfold cj0
 rw [hc]
 simp_arith [garT, bl0, et0, ey0, e1, e2', e3, e4, rowT]
 by_cases h1 : soil + c.change < 0
 ·have h1' : ¬ (0 <= soil + c.change) := by omega
  simp_arith [h1, h1', garT, bl0, et0, ey0, e1, e2', e3, e4, rowT]
 ·have h1' : 0 <= soil + c.change := by omega
  have e5 := mw0 false i (stood.take c.gap.toNat)
  unfold rowT at e5
  simp_arith [h1, h1', e5, garT, bl0, et0, ey0, e1, e2', e3, e4, rowT]
  by_cases h2 : i ∈ stood.take c.gap.toNat
  ·simp_arith [h2, garT, bl0, et0, ey0, e1, e2', e3, e4, rowT]
  ·simp_arith [h2, garT, bl0, et0, ey0, e1, e2', e3, e4, rowT]
   cases stood with
   | nil => rfl
   | cons s r =>
    have e6 := mw0 true s (bV0 p c)
    unfold rowT at e6
    have e7 : φIx (.tup ((s :: r).map intT)) (.int 0) = some (intT s) := by show L2.atI ((s :: r).map intT) ((0 : Nat) : Int) = _; exact L2.atI_nat rfl
    have e8 : φEq (.int (((s :: r).map intT).length : Int)) (.int 0) = some (.bl false) := by
     show some (T.bl (decide (V.int _ = V.int 0))) = _
     rw [decide_eq_false]
     intro z
     have := V.int.inj z
     simp at this
     omega
    simp_arith [e8, e7, e6, garT, bl0, et0, ey0, e1, e2', e3, e4, rowT]
def Pl (stood : List Nat) (i : Nat) : T -> Bool
 | .int k => decide (stood[k.toNat]? = some i)
 | _ => false
theorem iQ0 (stood : List Nat) (i n : Nat) : (bf0 0 n).any (Pl stood i) = decide (i ∈ stood.take n) := by
 unfold bf0
 rw [List.any_map]
 rw [Bool.eq_iff_iff, List.any_eq_true, decide_eq_true_iff, List.mem_take_iff_getElem]
 constructor
 ·rintro ⟨k, hk, h⟩
  have h : decide (stood[(0 + (k : Int)).toNat]? = some i) = true := h
  have e : (0 + (k : Int)).toNat = k := by omega
  rw [e, decide_eq_true_iff] at h
  obtain ⟨hl, h⟩ := List.getElem?_eq_some_iff.mp h
  exact ⟨k, by have := List.mem_range.mp hk; omega, h⟩
 ·rintro ⟨k, hk, h⟩
  refine ⟨k, List.mem_range.mpr (by omega), ?_⟩
  show decide (stood[(0 + (k : Int)).toNat]? = some i) = true
  have e : (0 + (k : Int)).toNat = k := by omega
  rw [e, decide_eq_true_iff]
  exact List.getElem?_eq_some_iff.mpr ⟨by omega, h⟩
structure Named (p : Plot) : Prop where
 nd : p.names.Nodup
 bars : ∀ c ∈ p.crops, ∀ b ∈ c.bars, b ∈ p.names
 wants : ∀ x ∈ p.wants, x.1 ∈ p.names
theorem gN0 {p : Plot} (h : Named p) {s : Nat} {c : Crop} (hc : p.crops[s]? = some c) : num p c.name = s := by
 obtain ⟨hl, e⟩ := List.getElem?_eq_some_iff.mp hc
 have hl' : s < p.names.length := by simpa using hl
 have e' : p.names[s] = c.name := by simp [e]
 unfold num
 rw [<- e']
 exact h.nd.idxOf_getElem s hl'
theorem jZ0 {p : Plot} (h : Named p) {s : Nat} {d c : Crop} (hd : p.crops[s]? = some d) (hc : c ∈ p.crops) : decide (s ∈ bV0 p c) = decide (d.name ∈ c.bars) := by
 rw [decide_eq_decide]
 unfold bV0
 rw [List.mem_map]
 constructor
 ·rintro ⟨b, hb, e⟩
  have hn := h.bars c hc b hb
  have e1 : p.names[num p b]? = some b := by
   have hl : p.names.idxOf b < p.names.length := List.idxOf_lt_length_of_mem hn
   exact (List.getElem?_eq_getElem hl).trans (congrArg some (List.getElem_idxOf hl))
  rw [e] at e1
  rw [List.getElem?_map, hd] at e1
  cases e1
  exact hb
 ·intro hb
  exact ⟨d.name, hb, gN0 h hd⟩
theorem ni0 (xs : List Str) (x : Str) : (xs.map T.str).any (fun y => eqV (toV y) (toV (.str x))) = decide (x ∈ xs) := by
 induction xs with
 | nil => simp
 | cons y xs ih =>
  rw [List.map_cons, List.any_cons, ih]
  show ((y == x) || decide (x ∈ xs)) = _
  by_cases h : y = x
  ·subst h; simp
  ·have : (y == x) = false := by simpa using h
   rw [this]
   simp [Ne.symm h]
theorem fs0 (xs : List Str) : (xs.map T.str).all aQ0 = true := by
 induction xs with
 | nil => rfl
 | cons x xs ih => rw [List.map_cons, List.all_cons, ih]; rfl
theorem iL0 (b : Bool) (x : Str) (xs : List Str) : φIn b (.str x) (.lst (xs.map .str)) = some (.bl (if b then !decide (x ∈ xs) else decide (x ∈ xs))) := by
 show (if aQ0 (.str x) && (xs.map T.str).all aQ0 then _ else _) = _
 rw [fs0, ni0]
 rfl
theorem az0 (ts : List T) (k : Nat) (t : T) (h : ts[k]? = some t) : φIx (.tup ts) (.int (k : Int)) = some t := L2.atI_nat h
theorem db0 (ts : List T) (k : Nat) (t : T) (h : ts[k]? = some t) : φIx (.lst ts) (.int (k : Int)) = some t := L2.atI_nat h
theorem hV0 (C : Addr) (p : Plot) (hp : Named p) (soil : Int) (stood : List Nat) (hs : ∀ s ∈ stood, s < p.crops.length) (i : Nat) (c : Crop) (hc : p.crops[i]? = some c) (hg : 0 <= c.gap) (hsl : stood.length <= 1000) :
  J2 C [aB0 p, bedT (soil, stood), intT i] = some (false, .bl (cj0 p soil stood i)) := by
 have a1 : φIx (aB0 p) (.int 2) = some (.lst (p.crops.map aj0)) := az0 _ 2 _ rfl
 have a2 : φIx (.lst (p.crops.map aj0)) (intT i) = some (aj0 c) := fv0 aj0 _ _ _ hc
 have a3 : φIx (bedT (soil, stood)) (.int 0) = some (.int soil) := az0 _ 0 _ rfl
 have a4 : φIx (bedT (soil, stood)) (.int 1) = some (rowT stood) := az0 _ 1 _ rfl
 have a5 : φIx (aj0 c) (.int 1) = some (.int c.change) := az0 _ 1 _ rfl
 have a6 : φIx (aj0 c) (.int 3) = some (.int c.gap) := az0 _ 3 _ rfl
 have a7 : φIx (aj0 c) (.int 4) = some (.lst (c.bars.map .str)) := az0 _ 4 _ rfl
 have hci : c ∈ p.crops := List.mem_of_getElem? hc
 unfold J2 ve0
 refine (aF0 (ε := [.sh (aB0 p), .sh (bedT (soil, stood)), .sh (intT i), .un, .un]) rfl rfl).trans ?_
 unfold cj0
 rw [hc]
 simp_arith [List.set_cons_zero, List.set_cons_succ, a1, a2, a3, a4, a5, a6, a7]
 by_cases h1 : soil + c.change < 0
 ·have h1' : ¬ (0 <= soil + c.change) := by omega
  simp_arith [h1, h1', List.set_cons_zero, List.set_cons_succ]
 ·have h1' : 0 <= soil + c.change := by omega
  simp_arith [h1, h1', List.set_cons_zero, List.set_cons_succ, a4, a6, sFor, aO0, rowT, List.length_map, dm0]
  have hm : (if (stood.length : Int) < c.gap then (stood.length : Int) else c.gap) = ((min stood.length c.gap.toNat : Nat) : Int) := by split <;> omega
  rw [hm, if_pos ⟨by omega, by omega⟩, Option.bind_some, Int.toNat_natCast]
  have ht : stood.take (min stood.length c.gap.toNat) = stood.take c.gap.toNat := by
   rw [Nat.min_comm, <- List.take_take, List.take_length]
  obtain ⟨lt, lf⟩ := dj0 (o := false) (r := .bl false) (bd := am0 4) (body := sIf (qB (e2 φEq (e2 φIx (e2 φIx (bVar 1) (eC (T.int 1))) (bVar 4)) (bVar 2))) (sRet false (eC (T.bl false))) sNx)
   (fun ε => ∃ z, ε = [.sh (aB0 p), .sh (bedT (soil, stood)), .sh (intT i), .sh (aj0 c), z]) (Pl stood i) (bf0 0 (min stood.length c.gap.toNat)) [.sh (aB0 p), .sh (bedT (soil, stood)), .sh (intT i), .sh (aj0 c), .un] ⟨_, rfl⟩ fun t ε ht ⟨z, he⟩ => by
    subst he
    obtain ⟨k, hk, rfl⟩ := List.mem_map.mp ht
    have hk := List.mem_range.mp hk
    have ek : (0 + (k : Int)) = (k : Int) := by omega
    rw [ek]
    have hkl : k < stood.length := by omega
    have b1 : φIx (rowT stood) (.int (k : Int)) = some (intT stood[k]) := az0 _ k _ (by rw [List.getElem?_map, List.getElem?_eq_getElem hkl]; rfl)
    have b2 : φEq (intT stood[k]) (intT i) = some (.bl (decide (stood[k] = i))) := by
     show some (T.bl (decide (V.int _ = V.int _))) = _
     congr 2
     rw [decide_eq_decide]
     constructor
     ·intro z; exact Int.ofNat_inj.mp (V.int.inj z)
     ·intro z; rw [z]
    have b3 : Pl stood i (.int (k : Int)) = decide (stood[k] = i) := by
     show decide (stood[((k : Int)).toNat]? = some i) = _
     rw [Int.toNat_natCast, List.getElem?_eq_getElem hkl, decide_eq_decide]
     simp
    refine ⟨_, rfl, fun q => ?_, fun q => ?_⟩
    ·rw [b3] at q
     simp_arith [List.set_cons_zero, List.set_cons_succ, a4, b1, b2, q]
    ·rw [b3] at q
     simp_arith [List.set_cons_zero, List.set_cons_succ, a4, b1, b2, q]
     exact ⟨_, rfl, _, rfl⟩
  rw [iQ0, ht] at lt lf
  by_cases h2 : i ∈ stood.take c.gap.toNat
  ·rw [lt (decide_eq_true h2)]
   simp_arith [List.set_cons_zero, List.set_cons_succ, h2]
  ·obtain ⟨ε', l1, z, l2⟩ := lf (decide_eq_false h2)
   subst l2
   rw [l1]
   have b0 : (if ([] : List T).length <= big then some (T.tup []) else none) = some (T.tup []) := rfl
   simp_arith [List.set_cons_zero, List.set_cons_succ, h2, a1, a2, a4, a7, b0]
   cases stood with
   | nil => rfl
   | cons s r =>
    obtain ⟨d, hd⟩ : ∃ d, p.crops[s]? = some d := ⟨_, List.getElem?_eq_getElem (hs s (List.mem_cons_self ..))⟩
    have c1 : φEq (rowT (s :: r)) (.tup []) = some (.bl false) := rfl
    have c2 : φIx (rowT (s :: r)) (.int 0) = some (intT s) := az0 _ 0 _ rfl
    have c3 : φIx (.lst (p.crops.map aj0)) (intT s) = some (aj0 d) := fv0 aj0 _ _ _ hd
    have c4 : φIx (aj0 d) (.int 0) = some (.str d.name) := az0 _ 0 _ rfl
    have c5 := iL0 true d.name c.bars
    simp_arith [List.set_cons_zero, List.set_cons_succ, c1, c2, c3, c4, c5, jZ0 hp hd hci]
theorem ch0 {n : Nat} {t : T} (h : t ∈ bf0 0 n) : ∃ k, k < n /\ t = intT k := by
 obtain ⟨k, hk, rfl⟩ := List.mem_map.mp h
 refine ⟨k, List.mem_range.mp hk, ?_⟩
 show T.int (0 + (k : Int)) = T.int (k : Int)
 rw [Int.zero_add]
theorem bJ0 (n : Nat) : bf0 0 n = (List.range n).map intT := by
 unfold bf0
 apply List.map_congr_left
 intro k _
 show T.int (0 + (k : Int)) = T.int (k : Int)
 rw [Int.zero_add]
def onN (q : Nat -> Bool) : T -> Bool
 | .int k => q k.toNat
 | _ => false
theorem dz0 (q : Nat -> Bool) (n : Nat) : ((bf0 0 n).filter (onN q)).map id = ((List.range n).filter q).map intT := by
 rw [bJ0, List.filter_map, List.map_id]
 congr 1
def cE0 (p : Plot) (soil : Int) (stood : List Nat) : List Nat := (List.range p.crops.length).filter (cj0 p soil stood)
structure Fine (p : Plot) : Prop extends Named p where
 gaps : ∀ c ∈ p.crops, 0 <= c.gap
 few : p.crops.length <= 5
theorem lx0 (C : Addr) (p : Plot) (hp : Fine p) (soil : Int) (stood : List Nat) :
  Y3 C [garT C p, .int soil, rowT stood] = some (true, .lst ((cE0 p soil stood).map intT)) := by
 unfold Y3 kd0
 refine (aF0 (ε := [.sh (garT C p), .sh (.int soil), .sh (rowT stood)]) rfl rfl).trans ?_
 have hf := hp.few
 have hi : aO0 (aa0 (ao0 φLen (aa0 (eFld C "changes" (bVar 0)) aNil)) aNil) [.sh (garT C p), .sh (.int soil), .sh (rowT stood)] = some (bf0 0 p.crops.length) := by
  simp_arith! [aO0, garT, bl0, List.length_map]
  rw [if_pos ⟨by omega, by omega⟩, Int.toNat_natCast]
 have e := cZ0 (n := 1) (bd := am0 0) (p := qB (bn0 C "lets" (W1 C) (eVar 1) (aa0 (eVar 2) (aa0 (eVar 3) (aa0 (eVar 0) aNil))))) (f := eVar 0) (P := onN (cj0 p soil stood)) (G := id) hi
  (by rw [bJ0, List.length_map, List.length_range]; unfold big; omega) fun t ht => by
   obtain ⟨k, hk, rfl⟩ := ch0 ht
   have hc : p.crops[k]? = some p.crops[k] := List.getElem?_eq_getElem hk
   have l := ky0 C p soil stood k _ hc (hp.gaps _ (List.getElem_mem hk))
   refine ⟨_, rfl, ?_, fun _ => rfl⟩
   have n0 : (aM0 p).lookup ("lets" : Str) = none := rfl
   have hq : onN (cj0 p soil stood) (intT k) = cj0 p soil stood k := by
    show cj0 p soil stood ((k : Int)).toNat = _
    rw [Int.toNat_natCast]
   unfold garT at l
   simp_arith! [List.replicate_one, List.singleton_append, bn0, garT, n0, and_self, l, hq]
 unfold sRet
 rw [e, dz0]
 rfl
theorem nA0 (C : Addr) (p : Plot) (hp : Fine p) (soil : Int) (stood : List Nat) (hs : ∀ s ∈ stood, s < p.crops.length) (hsl : stood.length <= 1000) (rows : T) (state : T) :
  aN0 1 (aO0 (aa0 (ao0 φLen (aa0 (e2 φIx (bVar 0) (eC (.int 2))) aNil)) aNil)) (am0 0) (qB (eFn (J2 C) (aa0 (eVar 1) (aa0 (eVar 4) (aa0 (eVar 0) aNil))))) (eVar 0) [.sh (aB0 p), .sh state, .sh rows, .sh (bedT (soil, stood))] = some (.lst ((cE0 p soil stood).map intT)) := by
 have hf := hp.few
 have a1 : φIx (aB0 p) (.int 2) = some (.lst (p.crops.map aj0)) := az0 _ 2 _ rfl
 have hi : aO0 (aa0 (ao0 φLen (aa0 (e2 φIx (bVar 0) (eC (.int 2))) aNil)) aNil) [.sh (aB0 p), .sh state, .sh rows, .sh (bedT (soil, stood))] = some (bf0 0 p.crops.length) := by
  simp_arith! [aO0, a1, List.length_map]
  rw [if_pos ⟨by omega, by omega⟩, Int.toNat_natCast]
 have e := cZ0 (n := 1) (bd := am0 0) (p := qB (eFn (J2 C) (aa0 (eVar 1) (aa0 (eVar 4) (aa0 (eVar 0) aNil))))) (f := eVar 0) (P := onN (cj0 p soil stood)) (G := id) hi
  (by rw [bJ0, List.length_map, List.length_range]; unfold big; omega) fun t ht => by
   obtain ⟨k, hk, rfl⟩ := ch0 ht
   have hc : p.crops[k]? = some p.crops[k] := List.getElem?_eq_getElem hk
   have l := hV0 C p hp.toNamed soil stood hs k _ hc (hp.gaps _ (List.getElem_mem hk)) hsl
   refine ⟨_, rfl, ?_, fun _ => rfl⟩
   have hq : onN (cj0 p soil stood) (intT k) = cj0 p soil stood k := by
    show cj0 p soil stood ((k : Int)).toNat = _
    rw [Int.toNat_natCast]
   simp_arith! [List.replicate_one, List.singleton_append, l, hq]
 rw [e, dz0]
 rfl
def bY0 (rows : List (List Nat)) (cs : List Nat) : List (List Nat) := rows.flatMap fun r => cs.map fun c => r ++ [c]
theorem eC0 (rows : List (List Nat)) (r : List Nat) (cs : List Nat) : bY0 (rows ++ [r]) cs = bY0 rows cs ++ cs.map fun c => r ++ [c] := by
 unfold bY0
 rw [List.flatMap_append]
 simp
theorem dc0 (cs : List Nat) : ∀ (rows : List (List Nat)), (bY0 rows cs).length = rows.length * cs.length
 | [] => by simp [bY0]
 | r :: rows => by
  have ih := dc0 cs rows
  unfold bY0 at ih ⊢
  rw [List.flatMap_cons, List.length_append, ih, List.length_map, List.length_cons, Nat.succ_mul, Nat.add_comm]
theorem it0 (r : List Nat) (c : Nat) (h : r.length <= 1000) : cl0 (rowT r) (.tup [intT c]) = some (rowT (r ++ [c])) := by
 show (if (r.map intT).length + 1 <= big then some (T.tup (r.map intT ++ [intT c])) else none) = _
 rw [if_pos (by rw [List.length_map]; unfold big; omega)]
 unfold rowT
 rw [List.map_append]
 rfl
theorem ob0 (C : Addr) (rows : List (List Nat)) (cs : List Nat) (hr : ∀ r ∈ rows, r.length <= 1000) (hb : rows.length * cs.length <= 10000) (hcs : cs.length <= 1000) :
  W3 C [.lst (rows.map rowT), .lst (cs.map intT)] = some (true, .lst ((bY0 rows cs).map rowT)) := by
 unfold W3 Vc0
 refine (aF0 (ε := [.sh (.lst (rows.map rowT)), .sh (.lst (cs.map intT)), .un, .un]) rfl rfl).trans ?_
 obtain ⟨ε', l1, z, l2⟩ := bk0 (bd := am0 3) (body := sExt 2 (aN0 1 (iLst (eVar 1)) (am0 0) be0 (e2 cl0 (bVar 4) (eTup (aa0 (eVar 0) aNil)))))
  (fun k ε => ∃ z, ε = [.sh (.lst (rows.map rowT)), .sh (.lst (cs.map intT)), .ow (.lst ((bY0 (rows.take k) cs).map rowT)), z]) (rows.map rowT) 0 [.sh (.lst (rows.map rowT)), .sh (.lst (cs.map intT)), .ow (.lst []), .un] ⟨_, rfl⟩ fun i t ε ht ⟨z, he⟩ => by
   subst he
   rw [Nat.zero_add] at *
   rw [List.getElem?_map] at ht
   cases hr0 : rows[i]? with
   | none => rw [hr0] at ht; cases ht
   | some r =>
    rw [hr0] at ht
    cases ht
    have hrl := hr r (List.mem_of_getElem? hr0)
    have hil : i < rows.length := (List.getElem?_eq_some_iff.mp hr0).1
    have e := aR0 (n := 1) (it := iLst (eVar 1)) (bd := am0 0) (f := e2 cl0 (bVar 4) (eTup (aa0 (eVar 0) aNil))) (G := fun t => match t with | .int c => rowT (r ++ [c.toNat]) | _ => .non) (ε := [.sh (.lst (rows.map rowT)), .sh (.lst (cs.map intT)), .ow (.lst ((bY0 (rows.take i) cs).map rowT)), .sh (rowT r)]) (ts := cs.map intT) rfl
     (by rw [List.length_map]; unfold big; omega) fun t ht => by
      obtain ⟨c, hc, rfl⟩ := List.mem_map.mp ht
      refine ⟨_, rfl, ?_⟩
      have b0 : (if [intT c].length <= big then some (T.tup [intT c]) else none) = some (T.tup [intT c]) := rfl
      simp_arith! [List.replicate_one, List.singleton_append, b0, it0 r c hrl, Int.toNat_natCast]
    have ee : (cs.map intT).map (fun t => match t with | T.int c => rowT (r ++ [c.toNat]) | _ => T.non) = (cs.map fun c => r ++ [c]).map rowT := by
     rw [List.map_map, List.map_map]
     apply List.map_congr_left
     intro c _
     show rowT (r ++ [((c : Int)).toNat]) = rowT (r ++ [c])
     rw [Int.toNat_natCast]
    rw [ee] at e
    refine ⟨_, _, rfl, .inl ?_, ⟨.sh (rowT r), rfl⟩⟩
    have et : rows.take (i + 1) = rows.take i ++ [r] := by rw [List.take_add_one, hr0]; rfl
    have hlen : ((bY0 (rows.take i) cs).map rowT).length + ((cs.map fun c => r ++ [c]).map rowT).length <= big := by
     rw [List.length_map, List.length_map, List.length_map, dc0, List.length_take]
     have : min i rows.length * cs.length <= rows.length * cs.length := Nat.mul_le_mul_right _ (Nat.min_le_right ..)
     unfold big
     omega
    show sExt 2 _ [.sh (.lst (rows.map rowT)), .sh (.lst (cs.map intT)), .ow (.lst ((bY0 (rows.take i) cs).map rowT)), .sh (rowT r)] = _
    unfold sExt
    simp only [List.getElem?_cons_zero, List.getElem?_cons_succ, e, Option.bind_some]
    rw [if_pos hlen, et, eC0, List.map_append]
    rfl
 have b0 : (if ([] : List T).length <= big then some (T.lst []) else none) = some (T.lst []) := rfl
 simp_arith! [b0, sFor]
 subst l2
 rw [l1, Nat.zero_add, List.length_map, List.take_length]
 rfl
theorem jv0 (C : Addr) (rows : List (List Nat)) (cs : List Nat) (hr : ∀ r ∈ rows, r.length <= 1000) (hb : rows.length * cs.length <= 10000) (hcs : cs.length <= 1000) :
  V4 C [.lst (rows.map rowT), .lst (cs.map intT)] = some (true, .lst ((bY0 rows cs).map rowT)) := by
 unfold V4 he0
 refine (aF0 (ε := [.sh (.lst (rows.map rowT)), .sh (.lst (cs.map intT)), .un, .un, .un]) rfl rfl).trans ?_
 obtain ⟨ε', l1, y, z, l2⟩ := bk0 (bd := am0 3) (body := sFor (iLst (eVar 1)) (am0 4) (sApp 2 (e2 cl0 (bVar 3) (eTup (aa0 (eVar 4) aNil)))))
  (fun k ε => ∃ y z, ε = [.sh (.lst (rows.map rowT)), .sh (.lst (cs.map intT)), .ow (.lst ((bY0 (rows.take k) cs).map rowT)), y, z]) (rows.map rowT) 0 [.sh (.lst (rows.map rowT)), .sh (.lst (cs.map intT)), .ow (.lst []), .un, .un] ⟨_, _, rfl⟩ fun i t ε ht ⟨y, z, he⟩ => by
   subst he
   rw [Nat.zero_add] at *
   rw [List.getElem?_map] at ht
   cases hr0 : rows[i]? with
   | none => rw [hr0] at ht; cases ht
   | some r =>
    rw [hr0] at ht
    cases ht
    have hrl := hr r (List.mem_of_getElem? hr0)
    have hil : i < rows.length := (List.getElem?_eq_some_iff.mp hr0).1
    have hlen : (bY0 (rows.take i) cs).length + cs.length <= 20000 := by
     rw [dc0, List.length_take]
     have : min i rows.length * cs.length <= rows.length * cs.length := Nat.mul_le_mul_right _ (Nat.min_le_right ..)
     omega
    obtain ⟨ε1, k1, z1, k2⟩ := bk0 (bd := am0 4) (body := sApp 2 (e2 cl0 (bVar 3) (eTup (aa0 (eVar 4) aNil))))
     (fun k ε => ∃ z, ε = [.sh (.lst (rows.map rowT)), .sh (.lst (cs.map intT)), .ow (.lst ((bY0 (rows.take i) cs ++ (cs.take k).map fun c => r ++ [c]).map rowT)), .sh (rowT r), z]) (cs.map intT) 0
     [.sh (.lst (rows.map rowT)), .sh (.lst (cs.map intT)), .ow (.lst ((bY0 (rows.take i) cs).map rowT)), .sh (rowT r), z] ⟨z, by rw [List.take_zero, List.map_nil, List.append_nil]⟩ fun j t ε ht ⟨w, he⟩ => by
      subst he
      rw [Nat.zero_add] at *
      rw [List.getElem?_map] at ht
      cases hc0 : cs[j]? with
      | none => rw [hc0] at ht; cases ht
      | some c =>
       rw [hc0] at ht
       cases ht
       have hjl : j < cs.length := (List.getElem?_eq_some_iff.mp hc0).1
       refine ⟨_, _, rfl, .inl ?_, ⟨.sh (intT c), rfl⟩⟩
       have et : cs.take (j + 1) = cs.take j ++ [c] := by rw [List.take_add_one, hc0]; rfl
       have b0 : (if [intT c].length <= big then some (T.tup [intT c]) else none) = some (T.tup [intT c]) := rfl
       have hl2 : ((bY0 (rows.take i) cs ++ (cs.take j).map fun c => r ++ [c]).map rowT).length < big := by
        rw [List.length_map, List.length_append, List.length_map, List.length_take]
        unfold big
        omega
       show sApp 2 _ [.sh (.lst (rows.map rowT)), .sh (.lst (cs.map intT)), .ow (.lst ((bY0 (rows.take i) cs ++ (cs.take j).map fun c => r ++ [c]).map rowT)), .sh (rowT r), .sh (intT c)] = _
       unfold sApp
       simp_arith! [b0, it0 r c hrl]
       rw [if_pos hl2, et, List.map_append, List.map_append, List.map_append, List.map_append, List.append_assoc]
       rfl
    subst k2
    refine ⟨_, _, rfl, .inl ?_, ⟨.sh (rowT r), z1, rfl⟩⟩
    have et : rows.take (i + 1) = rows.take i ++ [r] := by rw [List.take_add_one, hr0]; rfl
    show sFor _ _ _ [.sh (.lst (rows.map rowT)), .sh (.lst (cs.map intT)), .ow (.lst ((bY0 (rows.take i) cs).map rowT)), .sh (rowT r), z] = _
    unfold sFor
    simp_arith! [eq_self]
    rw [k1, Nat.zero_add, List.length_map, List.take_length, et, eC0]
 have b0 : (if ([] : List T).length <= big then some (T.lst []) else none) = some (T.lst []) := rfl
 simp_arith! [b0, sFor]
 subst l2
 rw [l1, Nat.zero_add, List.length_map, List.take_length]
 rfl
def bM0 (p : Plot) (row : List Nat) : Bool := p.wants.all fun x => decide (x.2.1 <= (row.count (num p x.1) : Int)) && decide ((row.count (num p x.1) : Int) <= x.2.2)
theorem iS0 (xs : List Nat) (i : Nat) : cT0 (rowT xs) [intT i] = some (.int (xs.count i : Int)) := by
 show (if aQ0 (intT i) && (xs.map intT).all aQ0 then _ else _) = _
 rw [gJ0, if_pos (show (aQ0 (intT i) && true) = true from rfl)]
 congr 3
 induction xs with
 | nil => rfl
 | cons x xs ih =>
  rw [List.map_cons, List.countP_cons, ih, List.count_cons]
  congr 1
  show (if ((x : Int) == (i : Int)) = true then 1 else 0) = _
  by_cases h : x = i
  ·subst h; simp
  ·have h1 : ((x : Int) == (i : Int)) = false := by simp; omega
   have h2 : (x == i) = false := by simpa using h
   rw [h1, h2]
def Pw (row : List Nat) : T -> Bool
 | .tup [.int n, .int a, .int b] => !(decide (a <= (row.count n.toNat : Int)) && decide ((row.count n.toNat : Int) <= b))
 | _ => false
theorem gS0 (C : Addr) (p : Plot) (row : List Nat) : Z2 C [garT C p, rowT row] = some (false, .bl (bM0 p row)) := by
 unfold Z2 wd0
 refine (aF0 (ε := [.sh (garT C p), .sh (rowT row), .un, .un, .un]) rfl rfl).trans ?_
 obtain ⟨lt, lf⟩ := dj0 (o := false) (r := .bl false) (bd := hC0 2 3 4) (body := sIf (qNot (qB (bW0 φLe φLe (bVar 3) (eBM cT0 (bVar 1) (aa0 (bVar 2) aNil)) (bVar 4)))) (sRet false (eC (.bl false))) sNx)
  (fun ε => ∃ x y z, ε = [.sh (garT C p), .sh (rowT row), x, y, z]) (Pw row) (p.wants.map fun x => .tup [intT (num p x.1), .int x.2.1, .int x.2.2]) [.sh (garT C p), .sh (rowT row), .un, .un, .un] ⟨_, _, _, rfl⟩ fun t ε ht ⟨x, y, z, he⟩ => by
   subst he
   obtain ⟨w, hw, rfl⟩ := List.mem_map.mp ht
   have b1 := iS0 row (num p w.1)
   have b2 : Pw row (.tup [intT (num p w.1), .int w.2.1, .int w.2.2]) = !(decide (w.2.1 <= (row.count (num p w.1) : Int)) && decide ((row.count (num p w.1) : Int) <= w.2.2)) := by
    show (!(decide (w.2.1 <= (row.count ((num p w.1 : Nat) : Int).toNat : Int)) && decide ((row.count ((num p w.1 : Nat) : Int).toNat : Int) <= w.2.2))) = _
    rw [Int.toNat_natCast]
   refine ⟨_, rfl, fun q => ?_, fun q => ?_⟩
   ·rw [b2] at q
    simp_arith! [bW0, b1]
    by_cases h1 : w.2.1 <= (row.count (num p w.1) : Int)
    ·simp only [h1, sSeq, sIf, sNx, sSet, cy0, sRet, eq0, bb0, qB, qNot, qAnd, qOr, e1, e2, bVar, eVar, eC, eFld, ao0, eTup, eLst, aa0, aNil, eOr, eAnd, eNot, eSlT, eSlL, bd0, eBM, iLst, iTpl, List.getElem?_cons_zero, List.getElem?_cons_succ, Option.bind_some, Option.map_some, if_true, if_false, decide_true, decide_false, Bool.false_eq_true, ct0, φAdd, φSub, φLt, φLe, φGt, φGe, φLen, Bool.true_and, Bool.false_and, Bool.and_true, Bool.and_false, Bool.not_true, Bool.not_false, eq_self, List.set_cons_zero, List.set_cons_succ, noD, eFn, eFnF, isI] at q ⊢
     simp only [Bool.not_eq_true', decide_eq_false_iff_not] at q
     simp_arith! [q]
    ·simp_arith! [h1]
   ·rw [b2] at q
    simp_arith! [bW0, b1]
    by_cases h1 : w.2.1 <= (row.count (num p w.1) : Int)
    ·simp only [h1, sSeq, sIf, sNx, sSet, cy0, sRet, eq0, bb0, qB, qNot, qAnd, qOr, e1, e2, bVar, eVar, eC, eFld, ao0, eTup, eLst, aa0, aNil, eOr, eAnd, eNot, eSlT, eSlL, bd0, eBM, iLst, iTpl, List.getElem?_cons_zero, List.getElem?_cons_succ, Option.bind_some, Option.map_some, if_true, if_false, decide_true, decide_false, Bool.false_eq_true, ct0, φAdd, φSub, φLt, φLe, φGt, φGe, φLen, Bool.true_and, Bool.false_and, Bool.and_true, Bool.and_false, Bool.not_true, Bool.not_false, eq_self, List.set_cons_zero, List.set_cons_succ, noD, eFn, eFnF, isI] at q ⊢
     simp only [Bool.not_eq_false', decide_eq_true_iff] at q
     simp_arith! [q]
     exact ⟨_, rfl, _, _, _, rfl⟩
    ·simp only [h1, sSeq, sIf, sNx, sSet, cy0, sRet, eq0, bb0, qB, qNot, qAnd, qOr, e1, e2, bVar, eVar, eC, eFld, ao0, eTup, eLst, aa0, aNil, eOr, eAnd, eNot, eSlT, eSlL, bd0, eBM, iLst, iTpl, List.getElem?_cons_zero, List.getElem?_cons_succ, Option.bind_some, Option.map_some, if_true, if_false, decide_true, decide_false, Bool.false_eq_true, ct0, φAdd, φSub, φLt, φLe, φGt, φGe, φLen, Bool.true_and, Bool.false_and, Bool.and_true, Bool.and_false, Bool.not_true, Bool.not_false, eq_self, List.set_cons_zero, List.set_cons_succ, noD, eFn, eFnF, isI] at q
     cases q
 have ha : (p.wants.map fun x => T.tup [intT (num p x.1), .int x.2.1, .int x.2.2]).any (Pw row) = !bM0 p row := by
  unfold bM0
  rw [List.any_map, List.not_all_eq_any_not]
  congr 1
 rw [ha] at lt lf
 have hw : iTpl (eFld C "wants" (bVar 0)) [.sh (garT C p), .sh (rowT row), .un, .un, .un] = some (p.wants.map fun x => T.tup [intT (num p x.1), .int x.2.1, .int x.2.2]) := by
  simp_arith! [garT, nw0]
 cases hq : bM0 p row with
 | false =>
  have := lt (by rw [hq]; rfl)
  unfold sSeq sFor
  rw [hw, Option.bind_some, this]
  rfl
 | true =>
  obtain ⟨ε', k1, x, y, z, k2⟩ := lf (by rw [hq]; rfl)
  unfold sSeq sFor
  rw [hw, Option.bind_some, k1]
  rfl
structure Good (p : Plot) : Prop extends Fine p where
 keys : (p.wants.map (·.1)).Nodup
theorem eF0 : ∀ (ws : List (Str × Int × Int)), (ws.map (·.1)).Nodup -> ∀ x ∈ ws, (ws.map fun x => (x.1, T.tup [.int x.2.1, .int x.2.2])).lookup x.1 = some (.tup [.int x.2.1, .int x.2.2])
 | [], _, x, hx => nomatch hx
 | w :: ws, nd, x, hx => by
  rw [List.map_cons, List.nodup_cons] at nd
  rw [List.map_cons, List.lookup_cons]
  rcases List.mem_cons.mp hx with rfl | hx
  ·simp
  ·have hne : (x.1 == w.1) = false := by
    rw [beq_eq_false_iff_ne]
    intro z
    exact nd.1 (z ▸ List.mem_map_of_mem hx)
   rw [hne]
   exact eF0 ws nd.2 x hx
theorem gs0 {p : Plot} (hp : Named p) (row : List Nat) (hrow : ∀ r ∈ row, r < p.crops.length) (k : Str) (hk : k ∈ p.names) :
  cX0 (.lst (row.map fun r => .str (p.names.getD r k))) [.str k] = some (.int (row.count (num p k) : Int)) := by
 have fl : (row.map fun r => T.str (p.names.getD r k)).all aQ0 = true := by
  rw [List.all_map]
  exact List.all_eq_true.mpr fun _ _ => rfl
 show (if aQ0 (.str k) && (row.map fun r => T.str (p.names.getD r k)).all aQ0 then _ else _) = _
 rw [fl, if_pos (show (aQ0 (.str k) && true) = true from rfl)]
 congr 3
 rw [List.countP_map]
 unfold List.count
 apply List.countP_congr
 intro r hr
 have hl := hrow r hr
 have hl' : r < p.names.length := by simpa using hl
 have hc : p.crops[r]? = some p.crops[r] := List.getElem?_eq_getElem hl
 have hn := gN0 hp hc
 have hg : p.names.getD r k = p.crops[r].name := by
  rw [List.getD_eq_getElem?_getD, List.getElem?_map, hc]
  rfl
 show (p.names.getD r k == k) = true ↔ (r == num p k) = true
 rw [hg, beq_iff_eq, beq_iff_eq]
 constructor
 ·intro z; rw [<- z]; exact hn.symm
 ·intro z
  have hl2 : p.names.idxOf k < p.names.length := List.idxOf_lt_length_of_mem hk
  have : p.names[p.names.idxOf k] = k := List.getElem_idxOf hl2
  have e2 : p.names[r]'hl' = k := by
   have : r = p.names.idxOf k := z
   subst this
   exact List.getElem_idxOf hl2
  rw [<- e2]
  simp
def onS (p : Plot) : T -> T
 | .int k => match p.crops[k.toNat]? with | some c => .str c.name | none => .non
 | _ => .non
theorem mr0 {p : Plot} {r : Nat} {c : Crop} (h : p.crops[r]? = some c) : onS p (intT r) = .str c.name := by
 show (match p.crops[((r : Int)).toNat]? with | some c => T.str c.name | none => .non) = _
 rw [Int.toNat_natCast, h]
def Pv (p : Plot) (row : List Nat) : T -> Bool
 | .str k => match p.wants.lookup k with | some ab => decide ((row.count (num p k) : Int) < ab.1) || decide ((row.count (num p k) : Int) > ab.2) | none => false
 | _ => false
theorem kS0 : ∀ (ws : List (Str × Int × Int)), (ws.map (·.1)).Nodup -> ∀ x ∈ ws, ws.lookup x.1 = some x.2
 | [], _, x, hx => nomatch hx
 | w :: ws, nd, x, hx => by
  rw [List.map_cons, List.nodup_cons] at nd
  rw [List.lookup_cons]
  rcases List.mem_cons.mp hx with rfl | hx
  ·simp
  ·have hne : (x.1 == w.1) = false := by
    rw [beq_eq_false_iff_ne]
    intro z
    exact nd.1 (z ▸ List.mem_map_of_mem hx)
   rw [hne]
   exact kS0 ws nd.2 x hx
theorem iD0 (C : Addr) (p : Plot) (hp : Good p) (row : List Nat) (hrow : ∀ r ∈ row, r < p.crops.length) (hl : row.length <= 1000) : W4 C [aB0 p, rowT row] = some (false, .bl (bM0 p row)) := by
 unfold W4 xe0
 refine (aF0 (ε := [.sh (aB0 p), .sh (rowT row), .un, .un]) rfl rfl).trans ?_
 have a1 : φIx (aB0 p) (.int 2) = some (.lst (p.crops.map aj0)) := az0 _ 2 _ rfl
 have a2 : φIx (aB0 p) (.int 3) = some (ar0 p.wants) := az0 _ 3 _ rfl
 have en := aR0 (n := 1) (it := iTpl (eVar 1)) (bd := am0 0) (f := e2 φIx (e2 φIx (e2 φIx (bVar 1) (eC (.int 2))) (bVar 0)) (eC (.int 0))) (G := onS p) (ε := [.sh (aB0 p), .sh (rowT row), .un, .un]) (ts := row.map intT) rfl
  (by rw [List.length_map]; unfold big; omega) fun t ht => by
   obtain ⟨r, hr, rfl⟩ := List.mem_map.mp ht
   have hrr := hrow r hr
   have hc : p.crops[r]? = some p.crops[r] := List.getElem?_eq_getElem hrr
   have b1 : φIx (.lst (p.crops.map aj0)) (intT r) = some (aj0 p.crops[r]) := fv0 aj0 _ _ _ hc
   have b2 : φIx (aj0 p.crops[r]) (.int 0) = some (.str p.crops[r].name) := az0 _ 0 _ rfl
   refine ⟨_, rfl, ?_⟩
   simp_arith! [List.replicate_one, List.singleton_append, a1, b1, b2, mr0 hc]
 obtain ⟨lt, lf⟩ := dj0 (o := false) (r := .bl false) (bd := am0 3) (body := sIf (qOr (qB (e2 φLt (eBM cX0 (bVar 2) (aa0 (bVar 3) aNil)) (e2 φIx (e2 gw0 (e2 φIx (bVar 0) (eC (.int 3))) (bVar 3)) (eC (.int 0))))) (qB (e2 φGt (eBM cX0 (bVar 2) (aa0 (bVar 3) aNil)) (e2 φIx (e2 gw0 (e2 φIx (bVar 0) (eC (.int 3))) (bVar 3)) (eC (.int 1)))))) (sRet false (eC (.bl false))) sNx)
  (fun ε => ∃ z, ε = [.sh (aB0 p), .sh (rowT row), .sh (.lst ((row.map intT).map (onS p))), z]) (Pv p row) (p.wants.map fun x => .str x.1) [.sh (aB0 p), .sh (rowT row), .sh (.lst ((row.map intT).map (onS p))), .un] ⟨_, rfl⟩ fun t ε ht ⟨z, he⟩ => by
   subst he
   obtain ⟨w, hw, rfl⟩ := List.mem_map.mp ht
   have hk := hp.wants w hw
   have e0 : (row.map intT).map (onS p) = row.map fun r => .str (p.names.getD r w.1) := by
    rw [List.map_map]
    apply List.map_congr_left
    intro r hr
    have hrr := hrow r hr
    have hc : p.crops[r]? = some p.crops[r] := List.getElem?_eq_getElem hrr
    show onS p (intT r) = _
    rw [mr0 hc, List.getD_eq_getElem?_getD, List.getElem?_map, hc]
    rfl
   have b1 := gs0 hp.toNamed row hrow w.1 hk
   rw [<- e0] at b1
   have b2 : gw0 (ar0 p.wants) (.str w.1) = some (.tup [.int w.2.1, .int w.2.2]) := eF0 p.wants hp.keys w hw
   have b3 : φIx (.tup [.int w.2.1, .int w.2.2]) (.int 0) = some (.int w.2.1) := az0 _ 0 _ rfl
   have b4 : φIx (.tup [.int w.2.1, .int w.2.2]) (.int 1) = some (.int w.2.2) := az0 _ 1 _ rfl
   have b5 : Pv p row (.str w.1) = (decide ((row.count (num p w.1) : Int) < w.2.1) || decide ((row.count (num p w.1) : Int) > w.2.2)) := by
    show (match p.wants.lookup w.1 with | some ab => _ | none => false) = _
    rw [kS0 p.wants hp.keys w hw]
   rw [b5]
   refine ⟨_, rfl, fun q => ?_, fun q => ?_⟩
   ·simp_arith! [a2, b1, b2, b3, b4]
    by_cases h1 : (row.count (num p w.1) : Int) < w.2.1
    ·simp_arith! [h1]
    ·simp only [h1, sSeq, sIf, sNx, sSet, cy0, sRet, eq0, bb0, qB, qNot, qAnd, qOr, e1, e2, bVar, eVar, eC, eFld, ao0, eTup, eLst, aa0, aNil, eOr, eAnd, eNot, eSlT, eSlL, bd0, eBM, iLst, iTpl, List.getElem?_cons_zero, List.getElem?_cons_succ, Option.bind_some, Option.map_some, if_true, if_false, decide_true, decide_false, Bool.false_eq_true, ct0, φAdd, φSub, φLt, φLe, φGt, φGe, φLen, Bool.true_and, Bool.false_and, Bool.and_true, Bool.and_false, Bool.not_true, Bool.not_false, eq_self, List.set_cons_zero, List.set_cons_succ, noD, eFn, eFnF, isI, Bool.false_or, decide_eq_true_iff] at q ⊢
     simp only [gt_iff_lt] at q
     simp_arith! [q]
   ·simp_arith! [a2, b1, b2, b3, b4]
    simp only [Bool.or_eq_false_iff, decide_eq_false_iff_not, gt_iff_lt] at q
    simp_arith! [q.1, q.2]
    exact ⟨_, rfl, _, rfl⟩
 have ha : (p.wants.map fun x => T.str x.1).any (Pv p row) = !bM0 p row := by
  unfold bM0
  rw [List.any_map, List.not_all_eq_any_not]
  rw [Bool.eq_iff_iff, List.any_eq_true, List.any_eq_true]
  have key : ∀ x ∈ p.wants, Pv p row (.str x.1) = !(decide (x.2.1 <= (row.count (num p x.1) : Int)) && decide ((row.count (num p x.1) : Int) <= x.2.2)) := fun x hx => by
   show (match p.wants.lookup x.1 with | some ab => _ | none => false) = _
   rw [kS0 p.wants hp.keys x hx]
   show (decide ((row.count (num p x.1) : Int) < x.2.1) || decide ((row.count (num p x.1) : Int) > x.2.2)) = _
   rw [Bool.not_and, <- decide_not, <- decide_not]
   congr 1 <;> rw [decide_eq_decide] <;> omega
  constructor
  ·rintro ⟨x, hx, h⟩; exact ⟨x, hx, (key x hx).symm.trans h⟩
  ·rintro ⟨x, hx, h⟩; exact ⟨x, hx, (key x hx).trans h⟩
 rw [ha] at lt lf
 have hw : iKey (e2 φIx (bVar 0) (eC (.int 3))) [.sh (aB0 p), .sh (rowT row), .sh (.lst ((row.map intT).map (onS p))), .un] = some (p.wants.map fun x => T.str x.1) := by
  simp_arith! [iKey, a2, ar0, List.map_map]
  rfl
 unfold sSeq sSet
 rw [en]
 simp only [Option.map_some, Option.bind_some, List.set_cons_succ, List.set_cons_zero]
 unfold sFor
 rw [hw, Option.bind_some]
 cases hq : bM0 p row with
 | false =>
  rw [lt (by rw [hq]; rfl)]
  rfl
 | true =>
  obtain ⟨ε', k1, z, k2⟩ := lf (by rw [hq]; rfl)
  rw [k1]
  rfl
abbrev Stt := List (Int × List Nat)
def co0 (p : Plot) (s : Stt) : List (List Nat) := s.foldl (fun rows b => bY0 rows (cE0 p b.1 b.2)) [[]]
theorem cK0 (p : Plot) (s : Stt) (b : Int × List Nat) : co0 p (s ++ [b]) = bY0 (co0 p s) (cE0 p b.1 b.2) := by
 unfold co0
 rw [List.foldl_append]
 rfl
def mayM (p : Plot) (s : Stt) : List (List Nat) := (co0 p s).filter (bM0 p)
theorem dM0 (p : Plot) (a : Int) (b : List Nat) : (cE0 p a b).length <= p.crops.length := by
 unfold cE0
 exact Nat.le_trans (List.length_filter_le ..) (by rw [List.length_range]; exact Nat.le_refl _)
theorem le0 {p : Plot} {a : Int} {b : List Nat} {c : Nat} (h : c ∈ cE0 p a b) : c < p.crops.length := List.mem_range.mp (List.mem_filter.mp h).1
theorem df0 (p : Plot) (h : p.crops.length <= 5) : ∀ (n : Nat) (s : Stt), s.length = n -> (co0 p s).length <= 5 ^ n /\ ∀ r ∈ co0 p s, r.length = n /\ ∀ c ∈ r, c < p.crops.length := by
 intro n
 induction n with
 | zero =>
  intro s hs
  obtain rfl := List.eq_nil_of_length_eq_zero hs
  refine ⟨Nat.le_refl _, fun r hr => ?_⟩
  obtain rfl : r = [] := List.mem_singleton.mp hr
  exact ⟨rfl, fun c hc => nomatch hc⟩
 | succ n ih =>
  intro s hs
  have hne : s ≠ [] := fun z => by rw [z] at hs; cases hs
  obtain ⟨s', b, rfl⟩ : ∃ s' b, s = s' ++ [b] := ⟨s.dropLast, s.getLast hne, (List.dropLast_concat_getLast hne).symm⟩
  rw [List.length_append, List.length_singleton] at hs
  obtain ⟨h1, h2⟩ := ih s' (by omega)
  rw [cK0]
  refine ⟨?_, fun r hr => ?_⟩
  ·rw [dc0, Nat.pow_succ]
   exact Nat.mul_le_mul h1 (Nat.le_trans (dM0 ..) h)
  ·obtain ⟨q, hq, hr⟩ := List.mem_flatMap.mp hr
   obtain ⟨c, hc, rfl⟩ := List.mem_map.mp hr
   obtain ⟨h3, h4⟩ := h2 q hq
   refine ⟨by rw [List.length_append, h3]; rfl, fun d hd => ?_⟩
   rcases List.mem_append.mp hd with hd | hd
   ·exact h4 d hd
   ·rw [List.mem_singleton.mp hd]; exact le0 hc
def fg0 (ts : List T) : List Nat := ts.map fun t => match t with | .int k => k.toNat | _ => 0
theorem eo0 (xs : List Nat) : fg0 (xs.map intT) = xs := by
 unfold fg0
 rw [List.map_map]
 have : ((fun t => match t with | T.int k => k.toNat | _ => 0) ∘ intT) = (id : Nat -> Nat) := funext fun k => Int.toNat_natCast k
 rw [this, List.map_id]
def onR (q : List Nat -> Bool) : T -> Bool
 | .tup ts => q (fg0 ts)
 | _ => false
theorem gu0 (q : List Nat -> Bool) (xs : List Nat) : onR q (rowT xs) = q xs := by
 show q (fg0 (xs.map intT)) = q xs
 rw [eo0]
theorem dO0 (q : List Nat -> Bool) (rows : List (List Nat)) : ((rows.map rowT).filter (onR q)).map id = (rows.filter q).map rowT := by
 rw [List.map_id, List.filter_map]
 congr 1
 exact List.filter_congr fun r _ => gu0 q r
theorem dd0 {n : Nat} (h : n <= 3) : 5 ^ n <= 125 := by
 rcases n with _ | _ | _ | _ | n
 all_goals first | decide | omega
theorem kP0 (C : Addr) (p : Plot) (hp : Good p) (s : Stt) (hs : s.length <= 3) : V2 C [garT C p, at0 s] = some (true, .lst ((mayM p s).map rowT)) := by
 unfold V2 yd0
 refine (aF0 (ε := [.sh (garT C p), .sh (at0 s), .un, .un, .un]) rfl rfl).trans ?_
 have n0 : (aM0 p).lookup ("crops_for" : Str) = none := rfl
 have n1 : (aM0 p).lookup ("meets_wants" : Str) = none := rfl
 obtain ⟨ε', l1, y, z, l2⟩ := bk0 (bd := bP0 3 4) (body := sSet 2 (eFnF (W3 C) (aa0 (eVar 2) (aa0 (cv0 C "crops_for" (Y3 C) (eVar 0) (aa0 (eVar 3) (aa0 (eVar 4) aNil))) aNil))))
  (fun k ε => ∃ y z, ε = [.sh (garT C p), .sh (at0 s), .sh (.lst ((co0 p (s.take k)).map rowT)), y, z]) (s.map bedT) 0 [.sh (garT C p), .sh (at0 s), .sh (.lst [.tup []]), .un, .un] ⟨_, _, rfl⟩ fun i t ε ht ⟨y, z, he⟩ => by
   subst he
   rw [Nat.zero_add] at *
   rw [List.getElem?_map] at ht
   cases hb : s[i]? with
   | none => rw [hb] at ht; cases ht
   | some b =>
    rw [hb] at ht
    cases ht
    have hil : i < s.length := (List.getElem?_eq_some_iff.mp hb).1
    have et : s.take (i + 1) = s.take i ++ [b] := by rw [List.take_add_one, hb]; rfl
    obtain ⟨h1, h2⟩ := df0 p hp.few i (s.take i) (by rw [List.length_take]; omega)
    have hcl := Nat.le_trans (dM0 p b.1 b.2) hp.few
    have hpw := dd0 (n := i) (by omega)
    have c1 := lx0 C p hp.toFine b.1 b.2
    have c2 := ob0 C (co0 p (s.take i)) (cE0 p b.1 b.2) (fun r hr => by have := (h2 r hr).1; omega) (Nat.le_trans (Nat.mul_le_mul (Nat.le_trans h1 hpw) hcl) (by decide)) (by omega)
    unfold garT at c1
    refine ⟨[.sh (garT C p), .sh (at0 s), .sh (.lst ((co0 p (s.take i)).map rowT)), .sh (.int b.1), .sh (rowT b.2)], _, rfl, .inl ?_, ⟨.sh (.int b.1), .sh (rowT b.2), rfl⟩⟩
    simp_arith! [cv0, garT, n0, and_self, c1, c2, et, cK0]
 have b0 : (if ([] : List T).length <= big then some (T.tup []) else none) = some (T.tup []) := rfl
 have b1 : (if ([T.tup []] : List T).length <= big then some (T.lst [T.tup []]) else none) = some (T.lst [T.tup []]) := rfl
 subst l2
 rw [Nat.zero_add, List.length_map, List.take_length] at l1
 obtain ⟨h1, h2⟩ := df0 p hp.few s.length s rfl
 have e := cZ0 (n := 1) (it := iLst (eVar 2)) (bd := am0 0) (p := qB (bn0 C "meets_wants" (Z2 C) (eVar 1) (aa0 (eVar 0) aNil))) (f := eVar 0) (P := onR (bM0 p)) (G := id) (ε := [.sh (garT C p), .sh (at0 s), .sh (.lst ((co0 p s).map rowT)), y, z]) (ts := (co0 p s).map rowT) rfl
  (by rw [List.length_map]; have := dd0 hs; unfold big; omega) fun t ht => by
   obtain ⟨r, hr, rfl⟩ := List.mem_map.mp ht
   have m := gS0 C p r
   refine ⟨_, rfl, ?_, fun _ => rfl⟩
   unfold garT at m
   simp_arith! [List.replicate_one, List.singleton_append, bn0, garT, n1, and_self, m, gu0]
 rw [dO0] at e
 simp only [sSeq, sSet, eLst, aa0, eTup, aNil, Option.bind_some, b0, b1, Option.map_some, List.set_cons_succ, List.set_cons_zero, sFor, iTpl, eVar, List.getElem?_cons_zero, List.getElem?_cons_succ, at0]
 unfold at0 at l1
 rw [l1]
 simp only [Option.bind_some, sRet]
 unfold at0 at e
 rw [e]
 rfl
theorem nc0 {gs : List T -> Option (Bool × T)} {E : En -> Option T} {ε : En} {r t u : T} {i j : Nat} (h1 : eVar j ε = some r) (hE : E ε = some t) (hg : gs [r, t] = some (true, u)) : sSet i (eFnF gs (aa0 (eVar j) (aa0 E aNil))) ε = some (.nx (ε.set i (.sh u))) := by
 unfold sSet eFnF aa0 aNil
 simp only [h1, hE, hg, Option.bind_some, Option.map_some]
theorem fC0 (C : Addr) (p : Plot) (hp : Good p) (s : Stt) (hs : s.length <= 3) (hst : ∀ b ∈ s, b.2.length <= 1000 /\ ∀ c ∈ b.2, c < p.crops.length) : Y4 C [aB0 p, at0 s] = some (true, .lst ((mayM p s).map rowT)) := by
 unfold Y4 Ze0
 refine (aF0 (ε := [.sh (aB0 p), .sh (at0 s), .un, .un]) rfl rfl).trans ?_
 obtain ⟨ε', l1, z, l2⟩ := bk0 (bd := am0 3) (body := sSet 2 (eFnF (V4 C) (aa0 (eVar 2) (aa0 (aN0 1 (aO0 (aa0 (ao0 φLen (aa0 (e2 φIx (bVar 0) (eC (.int 2))) aNil)) aNil)) (am0 0) (qB (eFn (J2 C) (aa0 (eVar 1) (aa0 (eVar 4) (aa0 (eVar 0) aNil))))) (eVar 0)) aNil))))
  (fun k ε => ∃ z, ε = [.sh (aB0 p), .sh (at0 s), .sh (.lst ((co0 p (s.take k)).map rowT)), z]) (s.map bedT) 0 [.sh (aB0 p), .sh (at0 s), .sh (.lst [.tup []]), .un] ⟨_, rfl⟩ fun i t ε ht ⟨z, he⟩ => by
   subst he
   rw [Nat.zero_add] at *
   rw [List.getElem?_map] at ht
   cases hb : s[i]? with
   | none => rw [hb] at ht; cases ht
   | some b =>
    rw [hb] at ht
    cases ht
    have hil : i < s.length := (List.getElem?_eq_some_iff.mp hb).1
    obtain ⟨hb1, hb2⟩ := hst b (List.mem_of_getElem? hb)
    have et : s.take (i + 1) = s.take i ++ [b] := by rw [List.take_add_one, hb]; rfl
    obtain ⟨h1, h2⟩ := df0 p hp.few i (s.take i) (by rw [List.length_take]; omega)
    have hcl := Nat.le_trans (dM0 p b.1 b.2) hp.few
    have hpw := dd0 (n := i) (by omega)
    have c1 := nA0 C p hp.toFine b.1 b.2 hb2 hb1 (.lst ((co0 p (s.take i)).map rowT)) (at0 s)
    have c2 := jv0 C (co0 p (s.take i)) (cE0 p b.1 b.2) (fun r hr => by have := (h2 r hr).1; omega) (Nat.le_trans (Nat.mul_le_mul (Nat.le_trans h1 hpw) hcl) (by decide)) (by omega)
    refine ⟨[.sh (aB0 p), .sh (at0 s), .sh (.lst ((co0 p (s.take i)).map rowT)), .sh (bedT b)], _, rfl, .inl ?_, ⟨.sh (bedT b), rfl⟩⟩
    have c3 : bedT (b.1, b.2) = bedT b := rfl
    rw [c3] at c1
    rw [et, cK0]
    exact nc0 rfl c1 c2
 have b0 : (if ([] : List T).length <= big then some (T.tup []) else none) = some (T.tup []) := rfl
 have b1 : (if ([T.tup []] : List T).length <= big then some (T.lst [T.tup []]) else none) = some (T.lst [T.tup []]) := rfl
 subst l2
 rw [Nat.zero_add, List.length_map, List.take_length] at l1
 obtain ⟨h1, h2⟩ := df0 p hp.few s.length s rfl
 have e := cZ0 (n := 1) (it := iLst (eVar 2)) (bd := am0 0) (p := qB (eFn (W4 C) (aa0 (eVar 1) (aa0 (eVar 0) aNil)))) (f := eVar 0) (P := onR (bM0 p)) (G := id) (ε := [.sh (aB0 p), .sh (at0 s), .sh (.lst ((co0 p s).map rowT)), z]) (ts := (co0 p s).map rowT) rfl
  (by rw [List.length_map]; have := dd0 hs; unfold big; omega) fun t ht => by
   obtain ⟨r, hr, rfl⟩ := List.mem_map.mp ht
   have m := iD0 C p hp r (h2 r hr).2 (by have := (h2 r hr).1; omega)
   refine ⟨_, rfl, ?_, fun _ => rfl⟩
   simp_arith! [List.replicate_one, List.singleton_append, m, gu0]
 rw [dO0] at e
 simp only [sSeq, sSet, eLst, aa0, eTup, aNil, Option.bind_some, b0, b1, Option.map_some, List.set_cons_succ, List.set_cons_zero, sFor, iTpl, eVar, List.getElem?_cons_zero, List.getElem?_cons_succ, at0]
 unfold at0 at l1
 rw [l1]
 simp only [Option.bind_some, sRet]
 unfold at0 at e
 rw [e]
 rfl
theorem cc0 {E : En -> Option T} {ε : En} {t u : T} {φ : List T -> Option T} (hE : E ε = some t) (hp : φ [t] = some u) : (sRet false (ao0 φ (aa0 E aNil)) ε).bind ct0 = some (false, u) := by
 unfold sRet ao0 aa0 aNil
 simp only [hE, hp, Option.bind_some, Option.map_some, ct0]
def aG0 (p : Plot) : Stt := p.soils.map fun x => (x, [])
def nh0 : T -> T
 | .int i => bedT (i, [])
 | _ => .non
theorem fr0 (p : Plot) : ((p.soils.map T.int).map nh0) = (aG0 p).map bedT := by
 unfold aG0
 rw [List.map_map, List.map_map]
 rfl
theorem cW0 (C : Addr) (p : Plot) (h : p.soils.length <= 1000) : J1 C [garT C p] = some (false, at0 (aG0 p)) := by
 unfold J1 zd0
 refine (aF0 (ε := [.sh (garT C p)]) rfl rfl).trans ?_
 have hi : iTpl (eFld C "soils" (bVar 0)) [.sh (garT C p)] = some (p.soils.map T.int) := by simp_arith! [garT, og0]
 have e := aR0 (n := 1) (bd := am0 0) (f := eTup (aa0 (eVar 0) (aa0 (eTup aNil) aNil))) (G := nh0) hi (by rw [List.length_map]; unfold big; omega) fun t ht => by
  obtain ⟨x, hx, rfl⟩ := List.mem_map.mp ht
  exact ⟨_, rfl, rfl⟩
 rw [fr0] at e
 exact cc0 e rfl
theorem cS0 (C : Addr) (p : Plot) (h : p.soils.length <= 1000) : Y2 C [aB0 p] = some (false, at0 (aG0 p)) := by
 unfold Y2 Ke0
 refine (aF0 (ε := [.sh (aB0 p)]) rfl rfl).trans ?_
 have a1 : φIx (aB0 p) (.int 0) = some (.lst (p.soils.map T.int)) := az0 _ 0 _ rfl
 have hi : iLst (e2 φIx (bVar 0) (eC (.int 0))) [.sh (aB0 p)] = some (p.soils.map T.int) := by simp_arith! [a1]
 have e := aR0 (n := 1) (bd := am0 0) (f := eTup (aa0 (eVar 0) (aa0 (eTup aNil) aNil))) (G := nh0) hi (by rw [List.length_map]; unfold big; omega) fun t ht => by
  obtain ⟨x, hx, rfl⟩ := List.mem_map.mp ht
  exact ⟨_, rfl, rfl⟩
 rw [fr0] at e
 exact cc0 e rfl
def gb0 (p : Plot) (row : List Nat) : Int := (row.map fun r => ((p.crops[r]?).map (·.harvest)).getD 0).sum
def eH0 (p : Plot) : T -> T
 | .int k => .int (((p.crops[k.toNat]?).map (·.harvest)).getD 0)
 | _ => .non
theorem gE0 (p : Plot) (row : List Nat) : φSum [.lst ((row.map intT).map (eH0 p))] = some (.int (gb0 p row)) := by
 have : (row.map intT).map (eH0 p) = (row.map fun r => ((p.crops[r]?).map (·.harvest)).getD 0).map T.int := by
  rw [List.map_map, List.map_map]
  apply List.map_congr_left
  intro r _
  show T.int (((p.crops[((r : Int)).toNat]?).map (·.harvest)).getD 0) = _
  rw [Int.toNat_natCast]
  rfl
 rw [this]
 show (cU0 _).map _ = _
 rw [eb0]
 rfl
theorem hU0 (C : Addr) (p : Plot) (row : List Nat) (hrow : ∀ r ∈ row, r < p.crops.length) (hl : row.length <= 1000) : W6 C [garT C p, rowT row] = some (false, .int (gb0 p row)) := by
 unfold W6 Kd0
 refine (aF0 (ε := [.sh (garT C p), .sh (rowT row)]) rfl rfl).trans ?_
 have e := aR0 (n := 1) (it := iTpl (eVar 1)) (ε := [.sh (garT C p), .sh (rowT row)]) (ts := row.map intT) (bd := am0 0) (f := e2 φIx (eFld C "harvests" (bVar 1)) (bVar 0)) (G := eH0 p) rfl (by rw [List.length_map]; unfold big; omega) fun t ht => by
  obtain ⟨r, hr, rfl⟩ := List.mem_map.mp ht
  have hrr := hrow r hr
  have hc : p.crops[r]? = some p.crops[r] := List.getElem?_eq_getElem hrr
  have e1 : φIx (.tup (p.crops.map fun c => .int c.harvest)) (intT r) = some (.int p.crops[r].harvest) := ix_tup (fun c => .int c.harvest) _ _ _ hc
  have e2' : eH0 p (intT r) = .int p.crops[r].harvest := by
   show T.int (((p.crops[((r : Int)).toNat]?).map (·.harvest)).getD 0) = _
   rw [Int.toNat_natCast, hc]
   rfl
  refine ⟨_, rfl, ?_⟩
  simp_arith! [List.replicate_one, List.singleton_append, garT, hZ0, e1, e2']
 exact cc0 e (gE0 p row)
theorem oi0 (C : Addr) (p : Plot) (row : List Nat) (hrow : ∀ r ∈ row, r < p.crops.length) (hl : row.length <= 1000) : h8 C [aB0 p, rowT row] = some (false, .int (gb0 p row)) := by
 unfold h8 Ve0
 refine (aF0 (ε := [.sh (aB0 p), .sh (rowT row)]) rfl rfl).trans ?_
 have a1 : φIx (aB0 p) (.int 2) = some (.lst (p.crops.map aj0)) := az0 _ 2 _ rfl
 have e := aR0 (n := 1) (it := iTpl (eVar 1)) (ε := [.sh (aB0 p), .sh (rowT row)]) (ts := row.map intT) (bd := am0 0) (f := e2 φIx (e2 φIx (e2 φIx (bVar 1) (eC (.int 2))) (bVar 0)) (eC (.int 2))) (G := eH0 p) rfl (by rw [List.length_map]; unfold big; omega) fun t ht => by
  obtain ⟨r, hr, rfl⟩ := List.mem_map.mp ht
  have hrr := hrow r hr
  have hc : p.crops[r]? = some p.crops[r] := List.getElem?_eq_getElem hrr
  have e1 : φIx (.lst (p.crops.map aj0)) (intT r) = some (aj0 p.crops[r]) := fv0 aj0 _ _ _ hc
  have e3 : φIx (aj0 p.crops[r]) (.int 2) = some (.int p.crops[r].harvest) := az0 _ 2 _ rfl
  have e2' : eH0 p (intT r) = .int p.crops[r].harvest := by
   show T.int (((p.crops[((r : Int)).toNat]?).map (·.harvest)).getD 0) = _
   rw [Int.toNat_natCast, hc]
   rfl
  refine ⟨_, rfl, ?_⟩
  simp_arith! [List.replicate_one, List.singleton_append, a1, e1, e3, e2']
 exact cc0 e (gE0 p row)
theorem ap0 {φ : T -> T -> Option T} {f g : En -> Option T} {ε : En} {s t : T} (h1 : f ε = some s) (h2 : g ε = some t) : e2 φ f g ε = φ s t := by
 unfold e2
 rw [h1, h2]
 rfl
theorem hA0 : ∀ (xs : List Int) (a b : Int), maxI (if a > b then a else b) xs = if maxI a xs > b then maxI a xs else b
 | [], a, b => rfl
 | x :: xs, a, b => by
  show maxI (if x > (if a > b then a else b) then x else (if a > b then a else b)) xs = if maxI (if x > a then x else a) xs > b then maxI (if x > a then x else a) xs else b
  rw [<- hA0 xs (if x > a then x else a) b]
  congr 1
  repeat' split
  all_goals omega
theorem lG0 (p : Plot) : maxI 1 (p.crops.map (·.gap)) = depth p := by
 unfold depth
 cases p.crops.map (·.gap) with
 | nil => rfl
 | cons g gs =>
  show maxI (if g > 1 then g else 1) gs = _
  exact hA0 gs g 1
theorem fA0 (p : Plot) : 1 <= depth p := by
 unfold depth
 split
 ·exact Int.le_refl _
 ·split <;> omega
def toGap : T -> T
 | .tup [_, _, _, g, _] => g
 | _ => .non
theorem kL0 (C : Addr) (p : Plot) (h : p.crops.length <= 1000) : K4 C [aB0 p] = some (false, .int (depth p)) := by
 unfold K4 we0
 refine (aF0 (ε := [.sh (aB0 p)]) rfl rfl).trans ?_
 have a1 : φIx (aB0 p) (.int 2) = some (.lst (p.crops.map aj0)) := az0 _ 2 _ rfl
 have hi : iLst (e2 φIx (bVar 0) (eC (.int 2))) [.sh (aB0 p)] = some (p.crops.map aj0) := by simp_arith! [a1]
 have e := aR0 (n := 1) (bd := am0 0) (f := e2 φIx (bVar 0) (eC (.int 3))) (G := toGap) hi (by rw [List.length_map]; unfold big; omega) fun t ht => by
  obtain ⟨c, hc, rfl⟩ := List.mem_map.mp ht
  have b1 : φIx (aj0 c) (.int 3) = some (.int c.gap) := az0 _ 3 _ rfl
  refine ⟨_, rfl, ?_⟩
  simp_arith! [List.replicate_one, List.singleton_append, b1]
  rfl
 have e3 : (p.crops.map aj0).map toGap = (p.crops.map (·.gap)).map T.int := by
  rw [List.map_map, List.map_map]
  rfl
 rw [e3] at e
 refine cc0 (E := e2 fP0 (eLst (aa0 (eC (.int 1)) aNil)) _) (t := .lst (T.int 1 :: (p.crops.map (·.gap)).map T.int)) ?_ ?_
 ·have b0 : eLst (aa0 (eC (.int 1)) aNil) [.sh (aB0 p)] = some (.lst [.int 1]) := rfl
  refine (ap0 b0 e).trans ?_
  show (if [T.int 1].length + ((p.crops.map (·.gap)).map T.int).length <= big then _ else _) = _
  rw [if_pos (by rw [List.length_map, List.length_map]; unfold big; simp only [List.length_cons, List.length_nil]; omega)]
  rfl
 ·show (cU0 ((1 :: p.crops.map (·.gap)).map T.int)).bind maxO = _
  rw [eb0]
  show some (T.int (maxI 1 (p.crops.map (·.gap)))) = _
  rw [lG0]
def bedM (p : Plot) (b : Int × List Nat) (c : Nat) : Int × List Nat :=
 let z := b.1 + ((p.crops[c]?).map (·.change)).getD 0
 (if z < p.top then z else p.top, (c :: b.2).take (depth p).toNat)
theorem ok0 (C : Addr) (p : Plot) (soil : Int) (stood : List Nat) (c : Nat) (hc : c < p.crops.length) (hl : stood.length <= 1000) :
  j4 C [garT C p, .int soil, rowT stood, intT c] = some (false, bedT (bedM p (soil, stood) c)) := by
 unfold j4 xd0
 refine (aF0 (ε := [.sh (garT C p), .sh (.int soil), .sh (rowT stood), .sh (intT c), .un]) rfl rfl).trans ?_
 have hc' : p.crops[c]? = some p.crops[c] := List.getElem?_eq_getElem hc
 have e1 : φIx (.tup (p.crops.map fun c => .int c.change)) (intT c) = some (.int p.crops[c].change) := ix_tup (fun c => .int c.change) _ _ _ hc'
 have b0 : (if ([intT c] : List T).length <= big then some (T.tup [intT c]) else none) = some (T.tup [intT c]) := rfl
 have b1 : cl0 (.tup [intT c]) (.tup (stood.map intT)) = some (.tup ((c :: stood).map intT)) := by
  show (if [intT c].length + (stood.map intT).length <= big then _ else _) = _
  rw [if_pos (by rw [List.length_map]; unfold big; simp only [List.length_cons, List.length_nil]; omega)]
  rfl
 have hd := fA0 p
 have b2 := fW0 (c :: stood) (depth p) (by omega)
 have b3 : ∀ (x y : T), (if ([x, y] : List T).length <= big then some (T.tup [x, y]) else none) = some (T.tup [x, y]) := fun x y => rfl
 simp_arith! [garT, f_top, bl0, mH0, rowT, b0, b1, e1, b2, b3, dm0]
 unfold bedM bedT rowT
 simp only [hc', Option.map_some, Option.getD_some]
def fp0 (x : (Int × List Nat) × Nat) : T := .tup [bedT x.1, intT x.2]
theorem eL0 : ∀ (s : Stt) (row : List Nat), zipT (s.map bedT) (row.map intT) = (s.zip row).map fp0
 | [], _ => by cases ‹List Nat› <;> rfl
 | _ :: _, [] => rfl
 | b :: s, c :: row => by
  show T.tup [bedT b, intT c] :: zipT (s.map bedT) (row.map intT) = _
  rw [eL0 s row]
  rfl
def okM (p : Plot) (x : (Int × List Nat) × Nat) : Bool := decide (x.2 < p.crops.length) && cj0 p x.1.1 x.1.2 x.2
def gi0 (p : Plot) (s : Stt) (row : List Nat) : Bool := decide (row.length = s.length) && (s.zip row).all (okM p) && bM0 p row
def Pf (p : Plot) : T -> Bool
 | .tup [.tup [.int a, .tup st], .int k] => !okM p ((a, fg0 st), k.toNat)
 | _ => false
theorem Pf_at (p : Plot) (x : (Int × List Nat) × Nat) : Pf p (fp0 x) = !okM p x := by
 show (!okM p ((x.1.1, fg0 (x.1.2.map intT)), ((x.2 : Int)).toNat)) = _
 rw [eo0, Int.toNat_natCast]
theorem nS0 (C : Addr) (p : Plot) (hp : Good p) (s : Stt) (row : List Nat) : y4 C [garT C p, at0 s, rowT row] = some (false, .bl (gi0 p s row)) := by
 unfold y4 Zd0
 refine (aF0 (ε := [.sh (garT C p), .sh (at0 s), .sh (rowT row), .un, .un]) rfl rfl).trans ?_
 have n0 : (aM0 p).lookup ("lets" : Str) = none := rfl
 have n1 : (aM0 p).lookup ("meets_wants" : Str) = none := rfl
 have b0 : φNe (.int (row.length : Int)) (.int (s.length : Int)) = some (.bl (!decide (row.length = s.length))) := by
  show some (T.bl (!decide (V.int _ = V.int _))) = _
  congr 3
  rw [decide_eq_decide]
  constructor
  ·intro z; exact Int.ofNat_inj.mp (V.int.inj z)
  ·intro z; rw [z]
 unfold gi0
 by_cases hl : row.length = s.length
 ·obtain ⟨lt, lf⟩ := dj0 (o := false) (r := .bl false) (bd := bP0 3 4) (body := sSeq (sIf (qNot (qB (bW0 φLe φLt (eC (.int 0)) (bVar 4) (ao0 φLen (aa0 (eFld C "changes" (bVar 0)) aNil))))) (sRet false (eC (.bl false))) sNx)
  (sIf (qNot (qB (bn0 C "lets" (W1 C) (eVar 0) (aa0 (e2 φIx (bVar 3) (eC (.int 0))) (aa0 (e2 φIx (bVar 3) (eC (.int 1))) (aa0 (eVar 4) aNil)))))) (sRet false (eC (.bl false))) sNx))
   (fun ε => ∃ y z, ε = [.sh (garT C p), .sh (at0 s), .sh (rowT row), y, z]) (Pf p) ((s.zip row).map fp0) [.sh (garT C p), .sh (at0 s), .sh (rowT row), .un, .un] ⟨_, _, rfl⟩ fun t ε ht ⟨y, z, he⟩ => by
    subst he
    obtain ⟨⟨⟨a, st⟩, c⟩, hx, rfl⟩ := List.mem_map.mp ht
    rw [Pf_at]
    have c1 : φIx (bedT (a, st)) (.int 0) = some (.int a) := az0 _ 0 _ rfl
    have c2 : φIx (bedT (a, st)) (.int 1) = some (rowT st) := az0 _ 1 _ rfl
    have c0 : (0 : Int) <= (c : Int) := by omega
    by_cases hc : c < p.crops.length
    ·have hc1 : (c : Int) < (p.crops.length : Int) := by omega
     have hcc : p.crops[c]? = some p.crops[c] := List.getElem?_eq_getElem hc
     have l := ky0 C p a st c _ hcc (hp.gaps _ (List.getElem_mem hc))
     unfold garT at l
     have hk : okM p ((a, st), c) = cj0 p a st c := by
      show (decide (c < p.crops.length) && cj0 p a st c) = _
      rw [decide_eq_true hc]
      rfl
     rw [hk]
     refine ⟨[.sh (garT C p), .sh (at0 s), .sh (rowT row), .sh (bedT (a, st)), .sh (intT c)], rfl, fun q => ?_, fun q => ?_⟩
     ·have q : cj0 p a st c = false := by simpa using q
      simp_arith! [bW0, bn0, garT, bl0, List.length_map, c0, hc1, c1, c2, n0, and_self, l, q]
     ·have q : cj0 p a st c = true := by simpa using q
      simp_arith! [bW0, bn0, garT, bl0, List.length_map, c0, hc1, c1, c2, n0, and_self, l, q]
      exact ⟨_, rfl, _, _, rfl⟩
    ·have hc1 : ¬ (c : Int) < (p.crops.length : Int) := by omega
     have hk : okM p ((a, st), c) = false := by
      show (decide (c < p.crops.length) && cj0 p a st c) = _
      rw [decide_eq_false hc]
      rfl
     rw [hk]
     refine ⟨[.sh (garT C p), .sh (at0 s), .sh (rowT row), .sh (bedT (a, st)), .sh (intT c)], rfl, fun q => ?_, fun q => nomatch q⟩
     simp_arith! [bW0, garT, bl0, List.length_map, c0, hc1]
  have ha : ((s.zip row).map fp0).any (Pf p) = !(s.zip row).all (okM p) := by
   rw [List.any_map, List.not_all_eq_any_not]
   congr 1
   exact funext fun x => Pf_at p x
  rw [ha] at lt lf
  have hz : hS0 (aa0 (bVar 1) (aa0 (bVar 2) aNil)) [.sh (garT C p), .sh (at0 s), .sh (rowT row), .un, .un] = some ((s.zip row).map fp0) := by
   rw [<- eL0]
   rfl
  have m := gS0 C p row
  unfold garT at m
  have e0 : qB (e2 φNe (ao0 φLen (aa0 (bVar 2) aNil)) (ao0 φLen (aa0 (bVar 1) aNil))) [.sh (garT C p), .sh (at0 s), .sh (rowT row), .un, .un] = some false := by
   simp_arith! [at0, rowT, List.length_map, b0]
   rw [decide_eq_true hl]
   rfl
  unfold sSeq
  have e1 : sIf (qB (e2 φNe (ao0 φLen (aa0 (bVar 2) aNil)) (ao0 φLen (aa0 (bVar 1) aNil)))) (sRet false (eC (.bl false))) sNx [.sh (garT C p), .sh (at0 s), .sh (rowT row), .un, .un] = some (.nx [.sh (garT C p), .sh (at0 s), .sh (rowT row), .un, .un]) := by
   unfold sIf
   rw [e0]
   rfl
  rw [e1]
  simp only [Option.bind_some, sFor]
  rw [hz, Option.bind_some]
  cases hq : (s.zip row).all (okM p) with
  | false =>
   have := lt (by rw [hq]; rfl)
   unfold sSeq at this
   rw [this]
   simp_arith! [hl]
  | true =>
   obtain ⟨ε', k1, y, z, k2⟩ := lf (by rw [hq]; rfl)
   subst k2
   unfold sSeq at k1
   rw [k1]
   simp_arith! [bn0, garT, n1, and_self, m, hl]
 ·simp_arith! [at0, rowT, List.length_map, b0, hl]
theorem aC0 {g h : En -> Option Fl} {ε ε1 : En} (h1 : g ε = some (.nx ε1)) : sSeq g h ε = h ε1 := by
 unfold sSeq
 rw [h1]
 rfl
theorem ck0 {f : En -> Option (List T)} {bd : T -> En -> Option En} {body : En -> Option Fl} {ε : En} {ts : List T} {fl : Option Fl} (h1 : f ε = some ts) (h2 : cn0 bd body ts ε = fl) : sFor f bd body ε = fl := by
 unfold sFor
 rw [h1]
 exact h2
def ba0 (p : Plot) (s : Stt) (row : List Nat) : Stt := (s.zip row).map fun x => bedM p x.1 x.2
def Gb (p : Plot) : T -> T
 | .tup [.tup [.int a, .tup st], .int k] => bedT (bedM p (a, fg0 st) k.toNat)
 | _ => .non
theorem Gb_at (p : Plot) (x : (Int × List Nat) × Nat) : Gb p (fp0 x) = bedT (bedM p x.1 x.2) := by
 show bedT (bedM p (x.1.1, fg0 (x.1.2.map intT)) ((x.2 : Int)).toNat) = _
 rw [eo0, Int.toNat_natCast]
theorem lY0 (C : Addr) (p : Plot) (hp : Good p) (s : Stt) (row : List Nat) (hs : s.length <= 3) (hst : ∀ b ∈ s, b.2.length <= 1000) (hall : ∀ x ∈ s.zip row, okM p x = true) :
  y6 C [garT C p, at0 s, rowT row] = some (false, at0 (ba0 p s row)) := by
 unfold y6 hd0
 refine (aF0 (ε := [.sh (garT C p), .sh (at0 s), .sh (rowT row)]) rfl rfl).trans ?_
 have n1 : (aM0 p).lookup ("bed_behind" : Str) = none := rfl
 have hz : hS0 (aa0 (bVar 1) (aa0 (bVar 2) aNil)) [.sh (garT C p), .sh (at0 s), .sh (rowT row)] = some ((s.zip row).map fp0) := by
  rw [<- eL0]
  rfl
 have e := aR0 (n := 2) (bd := bP0 0 1) (f := bn0 C "bed_behind" (j4 C) (eVar 2) (aa0 (e2 φIx (bVar 0) (eC (.int 0))) (aa0 (e2 φIx (bVar 0) (eC (.int 1))) (aa0 (eVar 1) aNil)))) (G := Gb p) hz
  (by rw [List.length_map, List.length_zip]; unfold big; omega) fun t ht => by
   obtain ⟨⟨⟨a, st⟩, c⟩, hx, rfl⟩ := List.mem_map.mp ht
   have hk := hall _ hx
   have hc : c < p.crops.length := by
    unfold okM at hk
    rw [Bool.and_eq_true, decide_eq_true_iff] at hk
    exact hk.1
   have hl := hst (a, st) (List.of_mem_zip hx).1
   have c1 : φIx (bedT (a, st)) (.int 0) = some (.int a) := az0 _ 0 _ rfl
   have c2 : φIx (bedT (a, st)) (.int 1) = some (rowT st) := az0 _ 1 _ rfl
   have l := ok0 C p a st c hc hl
   unfold garT at l
   rw [Gb_at]
   refine ⟨[.sh (bedT (a, st)), .sh (intT c), .sh (garT C p), .sh (at0 s), .sh (rowT row)], rfl, ?_⟩
   simp_arith! [bn0, garT, c1, c2, n1, and_self, l]
 have e3 : ((s.zip row).map fp0).map (Gb p) = (ba0 p s row).map bedT := by
  unfold ba0
  rw [List.map_map, List.map_map]
  apply List.map_congr_left
  intro x _
  exact Gb_at p x
 rw [e3] at e
 exact cc0 e rfl
theorem fO0 (C : Addr) (p : Plot) (hp : Good p) (s : Stt) (row : List Nat) (hs : s.length <= 3) (hst : ∀ b ∈ s, b.2.length <= 1000) (hl : row.length = s.length) (hrow : ∀ r ∈ row, r < p.crops.length) :
  k8 C [aB0 p, at0 s, rowT row] = some (false, at0 (ba0 p s row)) := by
 unfold k8 Qe0
 refine (aF0 (ε := [.sh (aB0 p), .sh (at0 s), .sh (rowT row), .un, .un, .un]) rfl rfl).trans ?_
 have a1 : φIx (aB0 p) (.int 2) = some (.lst (p.crops.map aj0)) := az0 _ 2 _ rfl
 have a2 : φIx (aB0 p) (.int 1) = some (.int p.top) := az0 _ 1 _ rfl
 have hmem := kL0 C p (by have := hp.few; omega)
 have hd := fA0 p
 have b3 : ∀ (x y : T), (if ([x, y] : List T).length <= big then some (T.tup [x, y]) else none) = some (T.tup [x, y]) := fun x y => rfl
 obtain ⟨ε', l1, y, z, l2⟩ := bk0 (bd := am0 4) (body := sSeq (sSet 5 (ao0 dm0 (aa0 (e2 φIx (bVar 0) (eC (.int 1))) (aa0 (e2 φAdd (e2 φIx (e2 φIx (bVar 1) (bVar 4)) (eC (.int 0))) (e2 φIx (e2 φIx (e2 φIx (bVar 0) (eC (.int 2))) (e2 φIx (bVar 2) (bVar 4))) (eC (.int 1)))) aNil))))
  (sApp 3 (eTup (aa0 (eVar 5) (aa0 (eSlT (e2 cl0 (eTup (aa0 (e2 φIx (bVar 2) (bVar 4)) aNil)) (e2 φIx (e2 φIx (bVar 1) (bVar 4)) (eC (.int 1)))) (bd0 none) (bd0 (some (eFn (K4 C) (aa0 (eVar 0) aNil))))) aNil)))))
  (fun k ε => ∃ y z, ε = [.sh (aB0 p), .sh (at0 s), .sh (rowT row), .ow (.lst (((ba0 p s row).take k).map bedT)), y, z]) (bf0 0 s.length) 0 [.sh (aB0 p), .sh (at0 s), .sh (rowT row), .ow (.lst []), .un, .un] ⟨_, _, rfl⟩ fun i t ε ht ⟨y, z, he⟩ => by
   subst he
   rw [Nat.zero_add] at *
   rw [bJ0, List.getElem?_map] at ht
   have hi : i < s.length := by
    cases q : (List.range s.length)[i]? with
    | none => rw [q] at ht; cases ht
    | some j =>
     have := (List.getElem?_eq_some_iff.mp q).1
     rwa [List.length_range] at this
   rw [List.getElem?_range hi] at ht
   cases ht
   have hir : i < row.length := by omega
   have hb := hst s[i] (List.getElem_mem hi)
   have hcl := hrow row[i] (List.getElem_mem hir)
   have hc : p.crops[row[i]]? = some p.crops[row[i]] := List.getElem?_eq_getElem hcl
   have c1 : φIx (at0 s) (intT i) = some (bedT s[i]) := az0 _ i _ (by rw [List.getElem?_map, List.getElem?_eq_getElem hi]; rfl)
   have c2 : φIx (bedT s[i]) (.int 0) = some (.int s[i].1) := az0 _ 0 _ rfl
   have c3 : φIx (bedT s[i]) (.int 1) = some (rowT s[i].2) := az0 _ 1 _ rfl
   have c4 : φIx (rowT row) (intT i) = some (intT row[i]) := az0 _ i _ (by rw [List.getElem?_map, List.getElem?_eq_getElem hir]; rfl)
   have c5 : φIx (.lst (p.crops.map aj0)) (intT row[i]) = some (aj0 p.crops[row[i]]) := fv0 aj0 _ _ _ hc
   have c6 : φIx (aj0 p.crops[row[i]]) (.int 1) = some (.int p.crops[row[i]].change) := az0 _ 1 _ rfl
   have b0 : (if ([intT row[i]] : List T).length <= big then some (T.tup [intT row[i]]) else none) = some (T.tup [intT row[i]]) := rfl
   have b1 : cl0 (.tup [intT row[i]]) (rowT s[i].2) = some (.tup ((row[i] :: s[i].2).map intT)) := by
    show (if [intT row[i]].length + (s[i].2.map intT).length <= big then _ else _) = _
    rw [if_pos (by rw [List.length_map]; unfold big; simp only [List.length_cons, List.length_nil]; omega)]
    rfl
   have b2 := fW0 (row[i] :: s[i].2) (depth p) (by omega)
   have hbm : (ba0 p s row)[i]? = some (bedM p s[i] row[i]) := by
    unfold ba0
    rw [List.getElem?_map, (List.getElem?_zip_eq_some (z := (s[i], row[i]))).mpr ⟨List.getElem?_eq_getElem hi, List.getElem?_eq_getElem hir⟩]
    rfl
   have et : (ba0 p s row).take (i + 1) = (ba0 p s row).take i ++ [bedM p s[i] row[i]] := by rw [List.take_add_one, hbm]; rfl
   have hlen : (((ba0 p s row).take i).map bedT).length < big := by
    rw [List.length_map, List.length_take]
    unfold big
    omega
   refine ⟨[.sh (aB0 p), .sh (at0 s), .sh (rowT row), .ow (.lst (((ba0 p s row).take i).map bedT)), .sh (intT i), z], _, rfl, .inl ?_, ⟨.sh (intT i), .sh (.int (bedM p s[i] row[i]).1), rfl⟩⟩
   simp_arith! [sApp, a1, a2, c1, c2, c3, c4, c5, c6, b0, b1, b2, b3, dm0, hmem, hlen]
   rw [et, List.map_append]
   unfold bedM
   rw [hc]
   rfl
 have b0 : (if ([] : List T).length <= big then some (T.lst []) else none) = some (T.lst []) := rfl
 have hi : aO0 (aa0 (ao0 φLen (aa0 (bVar 1) aNil)) aNil) [.sh (aB0 p), .sh (at0 s), .sh (rowT row), .ow (.lst []), .un, .un] = some (bf0 0 s.length) := by
  simp_arith! [aO0, at0, List.length_map]
  rw [if_pos ⟨by omega, by omega⟩, Int.toNat_natCast]
 have hbl : (ba0 p s row).length = s.length := by
  unfold ba0
  rw [List.length_map, List.length_zip]
  omega
 subst l2
 rw [Nat.zero_add, bJ0, List.length_map, List.length_range, <- hbl, List.take_length, hbl, <- bJ0] at l1
 have e1 : cy0 3 (eLst aNil) [.sh (aB0 p), .sh (at0 s), .sh (rowT row), .un, .un, .un] = some (.nx [.sh (aB0 p), .sh (at0 s), .sh (rowT row), .ow (.lst []), .un, .un]) := rfl
 rw [aC0 e1, aC0 (ck0 hi l1)]
 exact cc0 (E := bVar 3) rfl rfl
theorem crops_mem {p : Plot} {b : Int × List Nat} {c : Nat} : c ∈ cE0 p b.1 b.2 ↔ okM p (b, c) = true := by
 unfold cE0 okM
 rw [List.mem_filter, List.mem_range, Bool.and_eq_true, decide_eq_true_iff]
theorem kZ0 (p : Plot) : ∀ (n : Nat) (s : Stt), s.length = n -> ∀ r, r ∈ co0 p s ↔ r.length = s.length /\ ∀ x ∈ s.zip r, okM p x = true := by
 intro n
 induction n with
 | zero =>
  intro s hs r
  obtain rfl := List.eq_nil_of_length_eq_zero hs
  show r ∈ [[]] ↔ _
  rw [List.mem_singleton]
  constructor
  ·rintro rfl; exact ⟨rfl, fun x hx => nomatch hx⟩
  ·rintro ⟨h, _⟩; exact List.eq_nil_of_length_eq_zero h
 | succ n ih =>
  intro s hs r
  have hne : s ≠ [] := fun z => by rw [z] at hs; cases hs
  obtain ⟨s', b, rfl⟩ : ∃ s' b, s = s' ++ [b] := ⟨s.dropLast, s.getLast hne, (List.dropLast_concat_getLast hne).symm⟩
  rw [List.length_append, List.length_singleton] at hs
  have ih := ih s' (by omega)
  rw [cK0]
  unfold bY0
  rw [List.mem_flatMap]
  constructor
  ·rintro ⟨q, hq, hr⟩
   obtain ⟨c, hc, rfl⟩ := List.mem_map.mp hr
   obtain ⟨h1, h2⟩ := (ih q).mp hq
   refine ⟨by rw [List.length_append, List.length_append, h1]; rfl, fun x hx => ?_⟩
   rw [List.zip_append h1.symm] at hx
   rcases List.mem_append.mp hx with hx | hx
   ·exact h2 x hx
   ·obtain rfl : x = (b, c) := List.mem_singleton.mp hx
    exact crops_mem.mp hc
  ·rintro ⟨h1, h2⟩
   rw [List.length_append, List.length_singleton] at h1
   have hr : r ≠ [] := fun z => by rw [z] at h1; cases h1
   obtain ⟨q, c, rfl⟩ : ∃ q c, r = q ++ [c] := ⟨r.dropLast, r.getLast hr, (List.dropLast_concat_getLast hr).symm⟩
   rw [List.length_append, List.length_singleton] at h1
   have hq : q.length = s'.length := by omega
   rw [List.zip_append hq.symm] at h2
   refine ⟨q, (ih q).mpr ⟨hq, fun x hx => h2 x (List.mem_append_left _ hx)⟩, List.mem_map.mpr ⟨c, crops_mem.mpr (h2 (b, c) (List.mem_append_right _ (List.mem_singleton.mpr rfl))), rfl⟩⟩
theorem may_mem {p : Plot} {s : Stt} {r : List Nat} : r ∈ mayM p s ↔ gi0 p s r = true := by
 unfold mayM gi0
 rw [List.mem_filter, kZ0 p s.length s rfl r, Bool.and_eq_true, Bool.and_eq_true, decide_eq_true_iff, List.all_eq_true]
structure Lives (p : Plot) (s : Stt) : Prop where
 len : s.length = p.soils.length
 few : p.soils.length <= 3
 stood : ∀ b ∈ s, b.2.length <= (depth p).toNat /\ ∀ c ∈ b.2, c < p.crops.length
theorem dT0 {p : Plot} (h : p.soils.length <= 3) : Lives p (aG0 p) := by
 refine ⟨by unfold aG0; rw [List.length_map], h, fun b hb => ?_⟩
 obtain ⟨x, _, rfl⟩ := List.mem_map.mp hb
 exact ⟨Nat.zero_le _, fun c hc => nomatch hc⟩
theorem fk0 {p : Plot} {s : Stt} {r : List Nat} (h : Lives p s) (hl : r.length = s.length) (hr : ∀ c ∈ r, c < p.crops.length) : Lives p (ba0 p s r) := by
 refine ⟨by unfold ba0; rw [List.length_map, List.length_zip, hl, Nat.min_self]; exact h.len, h.few, fun b hb => ?_⟩
 obtain ⟨⟨b0, c⟩, hx, rfl⟩ := List.mem_map.mp hb
 have hz := List.of_mem_zip hx
 refine ⟨?_, fun d hd => ?_⟩
 ·show ((c :: b0.2).take (depth p).toNat).length <= _
  rw [List.length_take]
  exact Nat.min_le_left ..
 ·have hd : d ∈ (c :: b0.2).take (depth p).toNat := hd
  rcases List.mem_cons.mp (List.mem_of_mem_take hd) with rfl | hd
  ·exact hr _ hz.2
  ·exact (h.stood b0 hz.1).2 d hd
theorem bz0 (C : Addr) (v lo hi : Int) (w : T) (h1 : lo <= v) (h2 : v <= hi) : Z0 C [.int v, .int lo, .int hi, w] = some (false, .non) := by
 have i : w5 C [.int v, .int lo, .int hi] = some (false, .bl true) := by
  unfold w5 qc0
  refine (aF0 (ε := [.sh (.int v), .sh (.int lo), .sh (.int hi)]) rfl rfl).trans ?_
  have b1 : isT "bool" (.int v) = some false := rfl
  have b2 : isT "int" (.int v) = some true := rfl
  simp_arith! [eIs, b1, b2, bW0, h1, h2]
 unfold Z0 jc0
 refine (aF0 (ε := [.sh (.int v), .sh (.int lo), .sh (.int hi), .sh w]) rfl rfl).trans ?_
 simp_arith! [i]
theorem dy0 (C : Addr) (x : Str) (xs : List Str) (h : x ∈ xs) : Y0 C [.str x, .lst (xs.map .str)] = some (false, .non) := by
 unfold Y0 kc0
 refine (aF0 (ε := [.sh (.str x), .sh (.lst (xs.map .str))]) rfl rfl).trans ?_
 have b := iL0 true x xs
 simp_arith! [b, h]
structure Bound (p : Plot) : Prop extends Good p where
 beds : 1 <= p.soils.length /\ p.soils.length <= 3
 top : 1 <= p.top /\ p.top <= 5
 soil : ∀ x ∈ p.soils, 0 <= x /\ x <= p.top
 some : 1 <= p.crops.length
 text : ∀ c ∈ p.crops, c.name ≠ ""
 chg : ∀ c ∈ p.crops, -3 <= c.change /\ c.change <= 3
 har : ∀ c ∈ p.crops, 0 <= c.harvest /\ c.harvest <= 1000
 gap : ∀ c ∈ p.crops, 0 <= c.gap /\ c.gap <= 3
 bar : ∀ c ∈ p.crops, c.bars.length <= 1000
 want : ∀ x ∈ p.wants, 0 <= x.2.1 /\ x.2.1 <= x.2.2 /\ x.2.2 <= 3
 fewW : p.wants.length <= 1000
theorem bh0 {gs : List T -> Option (Bool × T)} {g : En -> Option (List T)} {ε : En} {ts : List T} (h1 : g ε = some ts) (h2 : gs ts = some (false, .non)) : bb0 (eFn gs g) ε = some (.nx ε) := by
 unfold bb0 eFn
 rw [h1]
 show Option.map (fun _ => Fl.nx ε) ((gs ts).bind noD) = _
 rw [h2]
 rfl
theorem dh0 {q : En -> Option Bool} {a : En -> Option Fl} {ε : En} (h : q ε = some false) : sIf q a sNx ε = some (.nx ε) := by
 unfold sIf
 rw [h]
 rfl
theorem mS0 (C : Addr) (p : Plot) (hp : Bound p) : j3 C [.lst (p.soils.map .int), .int p.top] = some (false, .non) := by
 unfold j3 wc0
 refine (aF0 (ε := [.sh (.lst (p.soils.map .int)), .sh (.int p.top), .un]) rfl rfl).trans ?_
 have hb := hp.beds
 obtain ⟨ε', l1, z, l2⟩ := bk0 (bd := am0 2) (body := bb0 (eFn (Z0 C) (aa0 (eVar 2) (aa0 (eC (.int 0)) (aa0 (eVar 1) (aa0 (eC (.str "the soil of a bed")) aNil))))))
  (fun k ε => ∃ z, ε = [.sh (.lst (p.soils.map .int)), .sh (.int p.top), z]) (p.soils.map .int) 0 [.sh (.lst (p.soils.map .int)), .sh (.int p.top), .un] ⟨_, rfl⟩ fun i t ε ht ⟨z, he⟩ => by
   subst he
   obtain ⟨x, hx, rfl⟩ := List.mem_map.mp (List.mem_of_getElem? ht)
   have := hp.soil x hx
   exact ⟨[.sh (.lst (p.soils.map .int)), .sh (.int p.top), .sh (.int x)], _, rfl, .inl (bh0 rfl (bz0 C x 0 p.top _ this.1 this.2)), _, rfl⟩
 have e1 : bb0 (eFn (Z0 C) (aa0 (eVar 1) (aa0 (eC (.int 1)) (aa0 (eC (.int 5)) (aa0 (eC (.str "the top")) aNil))))) [.sh (.lst (p.soils.map .int)), .sh (.int p.top), .un] = some (.nx [.sh (.lst (p.soils.map .int)), .sh (.int p.top), .un]) := bh0 rfl (bz0 C p.top 1 5 _ hp.top.1 hp.top.2)
 have e2' : sIf (qNot (qB (eIs "list" (bVar 0)))) (fun _ => none) sNx [.sh (.lst (p.soils.map .int)), .sh (.int p.top), .un] = some (.nx [.sh (.lst (p.soils.map .int)), .sh (.int p.top), .un]) := dh0 rfl
 have e3 : bb0 (eFn (Z0 C) (aa0 (ao0 φLen (aa0 (bVar 0) aNil)) (aa0 (eC (.int 1)) (aa0 (eC (.int 3)) (aa0 (eC (.str "the count of beds")) aNil))))) [.sh (.lst (p.soils.map .int)), .sh (.int p.top), .un] = some (.nx [.sh (.lst (p.soils.map .int)), .sh (.int p.top), .un]) :=
  bh0 rfl (bz0 C _ 1 3 _ (by rw [List.length_map]; omega) (by rw [List.length_map]; omega))
 rw [aC0 e1, aC0 e2', aC0 e3, ck0 (f := iLst (eVar 0)) rfl l1]
 rfl
theorem mP0 (C : Addr) (c : Crop) (h0 : c.name ≠ "") (h1 : -3 <= c.change /\ c.change <= 3) (h2 : 0 <= c.harvest /\ c.harvest <= 1000) (h3 : 0 <= c.gap /\ c.gap <= 3) : Z3 C [aj0 c] = some (false, .non) := by
 unfold Z3 vc0
 refine (aF0 (ε := [.sh (aj0 c)]) rfl rfl).trans ?_
 have a0 : φIx (aj0 c) (.int 0) = some (.str c.name) := az0 _ 0 _ rfl
 have a1 : φIx (aj0 c) (.int 1) = some (.int c.change) := az0 _ 1 _ rfl
 have a2 : φIx (aj0 c) (.int 2) = some (.int c.harvest) := az0 _ 2 _ rfl
 have a3 : φIx (aj0 c) (.int 3) = some (.int c.gap) := az0 _ 3 _ rfl
 have a4 : φIx (aj0 c) (.int 4) = some (.lst (c.bars.map .str)) := az0 _ 4 _ rfl
 have q0 : φEq (.str c.name) (.str "") = some (.bl false) := by
  show some (T.bl (decide (V.str _ = V.str _))) = _
  rw [decide_eq_false]
  intro z
  exact h0 (V.str.inj z)
 have r1 : sIf (qOr (qNot (qB (eIs "tuple" (bVar 0)))) (qB (e2 φNe (ao0 φLen (aa0 (bVar 0) aNil)) (eC (.int 5))))) (fun _ => none) sNx [.sh (aj0 c)] = some (.nx [.sh (aj0 c)]) := dh0 rfl
 have r2 : sIf (qOr (qNot (qB (eIs "str" (e2 φIx (bVar 0) (eC (.int 0)))))) (qB (e2 φEq (e2 φIx (bVar 0) (eC (.int 0))) (eC (.str ""))))) (fun _ => none) sNx [.sh (aj0 c)] = some (.nx [.sh (aj0 c)]) := dh0 (by
  have b : isT "str" (.str c.name) = some true := rfl
  simp_arith! [eIs, a0, b, q0])
 have r3 : bb0 (eFn (Z0 C) (aa0 (e2 φIx (bVar 0) (eC (.int 1))) (aa0 (e1 φNeg (eC (.int 3))) (aa0 (eC (.int 3)) (aa0 (eC (.str "the change of a crop")) aNil))))) [.sh (aj0 c)] = some (.nx [.sh (aj0 c)]) :=
  bh0 (ts := [.int c.change, .int (-3), .int 3, .str "the change of a crop"]) (by simp_arith! [a1, φNeg]) (bz0 C _ (-3) 3 _ h1.1 h1.2)
 have r4 : bb0 (eFn (Z0 C) (aa0 (e2 φIx (bVar 0) (eC (.int 2))) (aa0 (eC (.int 0)) (aa0 (eC (.int 1000)) (aa0 (eC (.str "the harvest of a crop")) aNil))))) [.sh (aj0 c)] = some (.nx [.sh (aj0 c)]) :=
  bh0 (ts := [.int c.harvest, .int 0, .int 1000, .str "the harvest of a crop"]) (by simp_arith! [a2]) (bz0 C _ 0 1000 _ h2.1 h2.2)
 have r5 : bb0 (eFn (Z0 C) (aa0 (e2 φIx (bVar 0) (eC (.int 3))) (aa0 (eC (.int 0)) (aa0 (eC (.int 3)) (aa0 (eC (.str "the gap of a crop")) aNil))))) [.sh (aj0 c)] = some (.nx [.sh (aj0 c)]) :=
  bh0 (ts := [.int c.gap, .int 0, .int 3, .str "the gap of a crop"]) (by simp_arith! [a3]) (bz0 C _ 0 3 _ h3.1 h3.2)
 have r6 : sIf (qNot (qB (eIs "list" (e2 φIx (bVar 0) (eC (.int 4)))))) (fun _ => none) sNx [.sh (aj0 c)] = some (.nx [.sh (aj0 c)]) := dh0 (by
  have b : isT "list" (.lst (c.bars.map .str)) = some true := rfl
  simp_arith! [eIs, a4, b])
 rw [aC0 r1, aC0 r2, aC0 r3, aC0 r4, aC0 r5, r6]
 rfl
def gT0 : T -> T
 | .tup [n, _, _, _, _] => n
 | _ => .non
theorem hF0 (C : Addr) (p : Plot) (h : p.crops.length <= 1000) : Q1 C [.lst (p.crops.map aj0)] = some (true, .lst (p.names.map .str)) := by
 unfold Q1 xc0
 refine (aF0 (ε := [.sh (.lst (p.crops.map aj0))]) rfl rfl).trans ?_
 have e := aR0 (n := 1) (it := iLst (eVar 0)) (ε := [.sh (.lst (p.crops.map aj0))]) (ts := p.crops.map aj0) (bd := am0 0) (f := e2 φIx (bVar 0) (eC (.int 0))) (G := gT0) rfl (by rw [List.length_map]; unfold big; omega) fun t ht => by
  obtain ⟨c, hc, rfl⟩ := List.mem_map.mp ht
  have b1 : φIx (aj0 c) (.int 0) = some (.str c.name) := az0 _ 0 _ rfl
  refine ⟨_, rfl, ?_⟩
  simp_arith! [List.replicate_one, List.singleton_append, b1]
  rfl
 have e3 : (p.crops.map aj0).map gT0 = p.names.map .str := by
  rw [List.map_map, List.map_map]
  rfl
 rw [e3] at e
 unfold sRet
 rw [e]
 rfl
theorem hH0 : ∀ (xs : List Str) (x : Str), x ∈ xs -> idxT (xs.map T.str) (.str x) = some (xs.idxOf x)
 | [], _, h => nomatch h
 | y :: xs, x, h => by
  unfold idxT
  rw [List.map_cons, List.findIdx?_cons, List.idxOf_cons]
  show (if (y == x) = true then some 0 else _) = _
  by_cases e : y = x
  ·subst e; simp
  ·have hne : (y == x) = false := by simpa using e
   have hx : x ∈ xs := (List.mem_cons.mp h).resolve_left (Ne.symm e)
   have ih := hH0 xs x hx
   unfold idxT at ih
   rw [hne, if_neg Bool.false_ne_true, ih]
   rfl
theorem hE0 (xs : List Str) (x : Str) (h : x ∈ xs) (hl : xs.length <= 1000) : cG0 (.lst (xs.map .str)) [.str x] = some (intT (xs.idxOf x)) := by
 show (if aQ0 (.str x) && (xs.map T.str).all aQ0 && decide ((xs.map T.str).length <= big) then _ else _) = _
 rw [fs0, hH0 xs x h]
 have hd : decide ((xs.map T.str).length <= big) = true := decide_eq_true (by rw [List.length_map]; unfold big; omega)
 rw [hd]
 rfl
def jA0 (p : Plot) : T -> T
 | .str x => intT (num p x)
 | _ => .non
theorem ik0 (C : Addr) (p : Plot) (xs : List Str) (h : ∀ x ∈ xs, x ∈ p.names) (hl : xs.length <= 1000) (hf : p.crops.length <= 5) : X1 C [.lst (xs.map .str), .lst (p.names.map .str)] = some (false, rowT (xs.map (num p))) := by
 unfold X1 Kc0
 refine (aF0 (ε := [.sh (.lst (xs.map .str)), .sh (.lst (p.names.map .str))]) rfl rfl).trans ?_
 have e := aR0 (n := 1) (it := iLst (eVar 0)) (ε := [.sh (.lst (xs.map .str)), .sh (.lst (p.names.map .str))]) (ts := xs.map .str) (bd := am0 0) (f := eBM cG0 (bVar 2) (aa0 (bVar 0) aNil)) (G := jA0 p) rfl (by rw [List.length_map]; unfold big; omega) fun t ht => by
  obtain ⟨x, hx, rfl⟩ := List.mem_map.mp ht
  have b1 := hE0 p.names x (h x hx) (by rw [List.length_map]; omega)
  refine ⟨_, rfl, ?_⟩
  simp_arith! [List.replicate_one, List.singleton_append, b1]
  rfl
 have e3 : (xs.map T.str).map (jA0 p) = (xs.map (num p)).map intT := by
  rw [List.map_map, List.map_map]
  rfl
 rw [e3] at e
 exact cc0 e rfl
theorem eD0 : ∀ (ks acc : List Key), (acc ++ ks).Nodup -> ks.foldl (fun acc k => if k ∈ acc then acc else acc ++ [k]) acc = acc ++ ks
 | [], acc, _ => by simp
 | k :: ks, acc, h => by
  have hk : ¬ k ∈ acc := fun z => by
   rw [List.nodup_append] at h
   exact h.2.2 k z k (List.mem_cons_self ..) rfl
  rw [List.foldl_cons, if_neg hk, eD0 ks (acc ++ [k]) (by rw [List.append_assoc]; exact h), List.append_assoc]
  rfl
theorem kR0 (xs : List Str) (h : xs.Nodup) : (metK (xs.map Sum.inr)).length = xs.length := by
 have hn : (xs.map (Sum.inr : Str -> Key)).Nodup := by
  rw [List.nodup_iff_pairwise_ne] at h ⊢
  rw [List.pairwise_map]
  exact h.imp fun hne z => hne (Sum.inr.inj z)
 have := eD0 (xs.map Sum.inr) [] (by simpa using hn)
 unfold metK
 rw [this]
 simp
theorem hz0 {gs : List T -> Option (Bool × T)} {E : En -> Option T} {ε : En} {t u : T} {i : Nat} (hE : E ε = some t) (hg : gs [t] = some (true, u)) : sSet i (eFnF gs (aa0 E aNil)) ε = some (.nx (ε.set i (.sh u))) := by
 unfold sSet eFnF aa0 aNil
 simp only [hE, hg, Option.bind_some, Option.map_some]
theorem jC0 (C : Addr) (p : Plot) (hp : Bound p) : J3 C [.lst (p.crops.map aj0)] = some (false, .non) := by
 unfold J3 Zc0
 refine (aF0 (ε := [.sh (.lst (p.crops.map aj0)), .un, .un, .un]) rfl rfl).trans ?_
 have hf := hp.few
 have hs := hp.some
 have r1 : sIf (qNot (qB (eIs "list" (bVar 0)))) (fun _ => none) sNx [.sh (.lst (p.crops.map aj0)), .un, .un, .un] = some (.nx [.sh (.lst (p.crops.map aj0)), .un, .un, .un]) := dh0 rfl
 have r2 : bb0 (eFn (Z0 C) (aa0 (ao0 φLen (aa0 (bVar 0) aNil)) (aa0 (eC (.int 1)) (aa0 (eC (.int 5)) (aa0 (eC (.str "the count of crops")) aNil))))) [.sh (.lst (p.crops.map aj0)), .un, .un, .un] = some (.nx [.sh (.lst (p.crops.map aj0)), .un, .un, .un]) :=
  bh0 rfl (bz0 C _ 1 5 _ (by rw [List.length_map]; omega) (by rw [List.length_map]; omega))
 obtain ⟨ε1, l1, z, l2⟩ := bk0 (bd := am0 1) (body := bb0 (eFn (Z3 C) (aa0 (eVar 1) aNil)))
  (fun k ε => ∃ z, ε = [.sh (.lst (p.crops.map aj0)), z, .un, .un]) (p.crops.map aj0) 0 [.sh (.lst (p.crops.map aj0)), .un, .un, .un] ⟨_, rfl⟩ fun i t ε ht ⟨z, he⟩ => by
   subst he
   obtain ⟨c, hc, rfl⟩ := List.mem_map.mp (List.mem_of_getElem? ht)
   exact ⟨[.sh (.lst (p.crops.map aj0)), .sh (aj0 c), .un, .un], _, rfl, .inl (bh0 rfl (mP0 C c (hp.text c hc) (hp.chg c hc) (hp.har c hc) (hp.gap c hc))), _, rfl⟩
 subst l2
 have r3 : sSet 2 (eFnF (Q1 C) (aa0 (eVar 0) aNil)) [.sh (.lst (p.crops.map aj0)), z, .un, .un] = some (.nx [.sh (.lst (p.crops.map aj0)), z, .sh (.lst (p.names.map .str)), .un]) := hz0 rfl (hF0 C p (by omega))
 have r4 : sIf (qB (e2 φNe (dl0 (bVar 2)) (ao0 φLen (aa0 (bVar 2) aNil)))) (fun _ => none) sNx [.sh (.lst (p.crops.map aj0)), z, .sh (.lst (p.names.map .str)), .un] = some (.nx [.sh (.lst (p.crops.map aj0)), z, .sh (.lst (p.names.map .str)), .un]) := dh0 (by
  have b1 : dl0 (bVar 2) [.sh (.lst (p.crops.map aj0)), z, .sh (.lst (p.names.map .str)), .un] = some (.int (p.names.length : Int)) := by
   unfold dl0
   simp_arith! [eq_self]
   rw [kG0, Option.bind_some, if_pos (by rw [List.length_map]; omega), kR0 _ hp.nd]
  have b2 : ao0 φLen (aa0 (bVar 2) aNil) [.sh (.lst (p.crops.map aj0)), z, .sh (.lst (p.names.map .str)), .un] = some (.int (p.names.length : Int)) := by
   simp_arith! [List.length_map]
  unfold qB
  rw [ap0 b1 b2]
  show (match some (T.bl (!decide (V.int _ = V.int _))) with | some (T.bl b) => some b | _ => none) = _
  rw [decide_eq_true rfl]
  rfl)
 obtain ⟨ε2, k1, y, w, k2⟩ := bk0 (bd := am0 1) (body := sFor (iLst (e2 φIx (bVar 1) (eC (.int 4)))) (am0 3) (bb0 (eFn (Y0 C) (aa0 (eVar 3) (aa0 (eVar 2) aNil)))))
  (fun k ε => ∃ y w, ε = [.sh (.lst (p.crops.map aj0)), y, .sh (.lst (p.names.map .str)), w]) (p.crops.map aj0) 0 [.sh (.lst (p.crops.map aj0)), z, .sh (.lst (p.names.map .str)), .un] ⟨_, _, rfl⟩ fun i t ε ht ⟨y, w, he⟩ => by
   subst he
   obtain ⟨c, hc, rfl⟩ := List.mem_map.mp (List.mem_of_getElem? ht)
   obtain ⟨ε3, m1, v, m2⟩ := bk0 (bd := am0 3) (body := bb0 (eFn (Y0 C) (aa0 (eVar 3) (aa0 (eVar 2) aNil))))
    (fun k ε => ∃ w, ε = [.sh (.lst (p.crops.map aj0)), .sh (aj0 c), .sh (.lst (p.names.map .str)), w]) (c.bars.map .str) 0 [.sh (.lst (p.crops.map aj0)), .sh (aj0 c), .sh (.lst (p.names.map .str)), w] ⟨_, rfl⟩ fun i t ε ht ⟨w, he⟩ => by
     subst he
     obtain ⟨b, hb, rfl⟩ := List.mem_map.mp (List.mem_of_getElem? ht)
     exact ⟨[.sh (.lst (p.crops.map aj0)), .sh (aj0 c), .sh (.lst (p.names.map .str)), .sh (.str b)], _, rfl, .inl (bh0 rfl (dy0 C b p.names (hp.bars c hc b hb))), _, rfl⟩
   subst m2
   have a4 : φIx (aj0 c) (.int 4) = some (.lst (c.bars.map .str)) := az0 _ 4 _ rfl
   have hi : iLst (e2 φIx (bVar 1) (eC (.int 4))) [.sh (.lst (p.crops.map aj0)), .sh (aj0 c), .sh (.lst (p.names.map .str)), w] = some (c.bars.map .str) := by simp_arith! [a4]
   exact ⟨[.sh (.lst (p.crops.map aj0)), .sh (aj0 c), .sh (.lst (p.names.map .str)), w], _, rfl, .inl (ck0 hi m1), _, _, rfl⟩
 subst k2
 rw [aC0 r1, aC0 r2, aC0 (ck0 (f := iLst (eVar 0)) rfl l1), aC0 r3, aC0 r4, ck0 (f := iLst (eVar 0)) rfl k1]
 rfl
theorem iA0 (C : Addr) (p : Plot) (hp : Bound p) : K3 C [ar0 p.wants, .lst (p.names.map .str)] = some (false, .non) := by
 unfold K3 Qc0
 refine (aF0 (ε := [.sh (ar0 p.wants), .sh (.lst (p.names.map .str)), .un, .un]) rfl rfl).trans ?_
 have r1 : sIf (qNot (qB (eIs "dict" (bVar 0)))) (fun _ => none) sNx [.sh (ar0 p.wants), .sh (.lst (p.names.map .str)), .un, .un] = some (.nx [.sh (ar0 p.wants), .sh (.lst (p.names.map .str)), .un, .un]) := dh0 rfl
 have hi : fK0 (eVar 0) [.sh (ar0 p.wants), .sh (.lst (p.names.map .str)), .un, .un] = some (p.wants.map fun x => .tup [.str x.1, .tup [.int x.2.1, .int x.2.2]]) := by
  show some ((p.wants.map fun x => (x.1, T.tup [.int x.2.1, .int x.2.2])).map fun kt => T.tup [.str kt.1, kt.2]) = _
  rw [List.map_map]
  rfl
 obtain ⟨ε1, l1, y, z, l2⟩ := bk0 (bd := bP0 2 3) (body := sSeq (bb0 (eFn (Y0 C) (aa0 (eVar 2) (aa0 (eVar 1) aNil))))
  (sSeq (sIf (qOr (qNot (qB (eIs "tuple" (bVar 3)))) (qB (e2 φNe (ao0 φLen (aa0 (bVar 3) aNil)) (eC (.int 2))))) (fun _ => none) sNx)
  (sSeq (bb0 (eFn (Z0 C) (aa0 (e2 φIx (bVar 3) (eC (.int 1))) (aa0 (eC (.int 0)) (aa0 (eC (.int 3)) (aa0 (eC (.str "the most of a want")) aNil))))))
  (bb0 (eFn (Z0 C) (aa0 (e2 φIx (bVar 3) (eC (.int 0))) (aa0 (eC (.int 0)) (aa0 (e2 φIx (bVar 3) (eC (.int 1))) (aa0 (eC (.str "the least of a want")) aNil)))))))))
  (fun k ε => ∃ y z, ε = [.sh (ar0 p.wants), .sh (.lst (p.names.map .str)), y, z]) (p.wants.map fun x => .tup [.str x.1, .tup [.int x.2.1, .int x.2.2]]) 0 [.sh (ar0 p.wants), .sh (.lst (p.names.map .str)), .un, .un] ⟨_, _, rfl⟩ fun i t ε ht ⟨y, z, he⟩ => by
   subst he
   obtain ⟨⟨n, a, b⟩, hx, rfl⟩ := List.mem_map.mp (List.mem_of_getElem? ht)
   have hw : 0 <= a /\ a <= b /\ b <= 3 := hp.want _ hx
   have hn := hp.wants _ hx
   have c1 : φIx (.tup [.int a, .int b]) (.int 0) = some (.int a) := az0 _ 0 _ rfl
   have c2 : φIx (.tup [.int a, .int b]) (.int 1) = some (.int b) := az0 _ 1 _ rfl
   refine ⟨[.sh (ar0 p.wants), .sh (.lst (p.names.map .str)), .sh (.str n), .sh (.tup [.int a, .int b])], _, rfl, .inl ?_, .sh (.str n), .sh (.tup [.int a, .int b]), rfl⟩
   have q1 : bb0 (eFn (Y0 C) (aa0 (eVar 2) (aa0 (eVar 1) aNil))) [.sh (ar0 p.wants), .sh (.lst (p.names.map .str)), .sh (.str n), .sh (.tup [.int a, .int b])] = some (.nx [.sh (ar0 p.wants), .sh (.lst (p.names.map .str)), .sh (.str n), .sh (.tup [.int a, .int b])]) := bh0 rfl (dy0 C n p.names hn)
   have q2 : sIf (qOr (qNot (qB (eIs "tuple" (bVar 3)))) (qB (e2 φNe (ao0 φLen (aa0 (bVar 3) aNil)) (eC (.int 2))))) (fun _ => none) sNx [.sh (ar0 p.wants), .sh (.lst (p.names.map .str)), .sh (.str n), .sh (.tup [.int a, .int b])] = some (.nx [.sh (ar0 p.wants), .sh (.lst (p.names.map .str)), .sh (.str n), .sh (.tup [.int a, .int b])]) := dh0 rfl
   have q3 : bb0 (eFn (Z0 C) (aa0 (e2 φIx (bVar 3) (eC (.int 1))) (aa0 (eC (.int 0)) (aa0 (eC (.int 3)) (aa0 (eC (.str "the most of a want")) aNil))))) [.sh (ar0 p.wants), .sh (.lst (p.names.map .str)), .sh (.str n), .sh (.tup [.int a, .int b])] = some (.nx [.sh (ar0 p.wants), .sh (.lst (p.names.map .str)), .sh (.str n), .sh (.tup [.int a, .int b])]) :=
    bh0 (ts := [.int b, .int 0, .int 3, .str "the most of a want"]) (by simp_arith! [c2]) (bz0 C _ 0 3 _ (by have := hw.1; have := hw.2.1; omega) hw.2.2)
   have q4 : bb0 (eFn (Z0 C) (aa0 (e2 φIx (bVar 3) (eC (.int 0))) (aa0 (eC (.int 0)) (aa0 (e2 φIx (bVar 3) (eC (.int 1))) (aa0 (eC (.str "the least of a want")) aNil))))) [.sh (ar0 p.wants), .sh (.lst (p.names.map .str)), .sh (.str n), .sh (.tup [.int a, .int b])] = some (.nx [.sh (ar0 p.wants), .sh (.lst (p.names.map .str)), .sh (.str n), .sh (.tup [.int a, .int b])]) :=
    bh0 (ts := [.int a, .int 0, .int b, .str "the least of a want"]) (by simp_arith! [c1, c2]) (bz0 C _ 0 b _ hw.1 hw.2.1)
   rw [aC0 q1, aC0 q2, aC0 q3]
   exact q4
 subst l2
 rw [aC0 r1, ck0 hi l1]
 rfl
theorem bw0 {φ : List T -> Option T} {E : En -> Option T} {ε : En} {t u : T} (hE : E ε = some t) (hp : φ [t] = some u) : ao0 φ (aa0 E aNil) ε = some u := by
 unfold ao0 aa0 aNil
 rw [hE]
 exact hp
theorem cx0 {C : Addr} {i : Nat} {n : Str} {f : En -> Option T} {ε : En} {fs : List (Str × T)} {t : T} (h0 : ε[i]? = some (.ow (.ins C fs))) (hl : fs.length < 1000) (hf : f ε = some t) : cg0 C i n f ε = some (.nx (ε.set i (.ow (.ins C (hW0 n t fs))))) := by
 unfold cg0
 rw [h0]
 show (if C = C /\ fs.length < 1000 then _ else _) = _
 rw [if_pos ⟨rfl, hl⟩, hf]
 rfl
def toFld (k : Nat) : T -> T
 | .tup ts => ts.getD k .non
 | _ => .non
theorem gm0 (p : Plot) (k : Nat) (g : Crop -> T) (hk : ∀ c, φIx (aj0 c) (.int (k : Int)) = some (g c)) (hf : p.crops.length <= 5) (ε : En) (hε : ε[3]? = some (.sh (.lst (p.crops.map aj0)))) :
  ao0 bj0 (aa0 (aN0 1 (iLst (eVar 3)) (am0 0) be0 (e2 φIx (bVar 0) (eC (.int (k : Int))))) aNil) ε = some (.tup (p.crops.map g)) := by
 have hi : iLst (eVar 3) ε = some (p.crops.map aj0) := by
  unfold iLst eVar
  rw [hε]
 have hg : ∀ c, toFld k (aj0 c) = g c := fun c => by
  have h := hk c
  have h : L2.atI [T.str c.name, .int c.change, .int c.harvest, .int c.gap, .lst (c.bars.map .str)] (k : Int) = some (g c) := h
  show ([T.str c.name, .int c.change, .int c.harvest, .int c.gap, .lst (c.bars.map .str)] : List T).getD k .non = g c
  rw [List.getD_eq_getElem?_getD]
  unfold L2.atI L2.ixN at h
  rw [if_pos (by omega)] at h
  split at h
  ·rw [Option.bind_some, Int.toNat_natCast] at h
   rw [h]
   rfl
  ·cases h
 have e := aR0 (n := 1) (bd := am0 0) (f := e2 φIx (bVar 0) (eC (.int (k : Int)))) (G := toFld k) hi (by rw [List.length_map]; unfold big; omega) fun t ht => by
  obtain ⟨c, hc, rfl⟩ := List.mem_map.mp ht
  refine ⟨_, rfl, ?_⟩
  refine (ap0 (s := aj0 c) (t := .int (k : Int)) rfl rfl).trans ?_
  rw [hk c, hg c]
 rw [List.map_map] at e
 refine (bw0 e rfl).trans ?_
 congr 2
 apply List.map_congr_left
 intro c _
 exact hg c
theorem ne0 {C : Addr} {N : List Str} {n : Nat} {g : En -> Option Fl} {ts : List T} {ε : En} (h : ts.length + 1 = n) (he : fV0 C N ts = ε) : fnI C N n g ts = (g ε).bind (retI C) := by
 unfold fnI
 rw [if_pos h, he]
theorem fz0 {φ : List T -> Option T} {E F : En -> Option T} {ε : En} {s t u : T} (hE : E ε = some s) (hF : F ε = some t) (hp : φ [s, t] = some u) : ao0 φ (aa0 E (aa0 F aNil)) ε = some u := by
 unfold ao0 aa0 aNil
 simp only [hE, hF, Option.bind_some]
 exact hp
def mv0 (p : Plot) : T -> T
 | .tup [_, _, _, _, .lst bs] => .tup (bs.map (jA0 p))
 | _ => .non
def oJ0 (p : Plot) : T -> T
 | .tup [.str x, .tup [a, b]] => .tup [intT (num p x), a, b]
 | _ => .non
theorem mM0 (C : Addr) (p : Plot) (hp : Bound p) : Y5 C [.lst (p.soils.map .int), .int p.top, .lst (p.crops.map aj0), ar0 p.wants] = some (aM0 p) := by
 unfold Y5 Yc0
 refine (ne0 (ε := [.ow (.ins C []), .sh (.lst (p.soils.map .int)), .sh (.int p.top), .sh (.lst (p.crops.map aj0)), .sh (ar0 p.wants), .un]) rfl rfl).trans ?_
 have hf := hp.few
 have r1 : bb0 (eFn (j3 C) (aa0 (eVar 1) (aa0 (eVar 2) aNil))) [.ow (.ins C []), .sh (.lst (p.soils.map .int)), .sh (.int p.top), .sh (.lst (p.crops.map aj0)), .sh (ar0 p.wants), .un] = some (.nx [.ow (.ins C []), .sh (.lst (p.soils.map .int)), .sh (.int p.top), .sh (.lst (p.crops.map aj0)), .sh (ar0 p.wants), .un]) := bh0 rfl (mS0 C p hp)
 have r2 : bb0 (eFn (J3 C) (aa0 (eVar 3) aNil)) [.ow (.ins C []), .sh (.lst (p.soils.map .int)), .sh (.int p.top), .sh (.lst (p.crops.map aj0)), .sh (ar0 p.wants), .un] = some (.nx [.ow (.ins C []), .sh (.lst (p.soils.map .int)), .sh (.int p.top), .sh (.lst (p.crops.map aj0)), .sh (ar0 p.wants), .un]) := bh0 rfl (jC0 C p hp)
 have r3 : sSet 5 (eFnF (Q1 C) (aa0 (eVar 3) aNil)) [.ow (.ins C []), .sh (.lst (p.soils.map .int)), .sh (.int p.top), .sh (.lst (p.crops.map aj0)), .sh (ar0 p.wants), .un] = some (.nx [.ow (.ins C []), .sh (.lst (p.soils.map .int)), .sh (.int p.top), .sh (.lst (p.crops.map aj0)), .sh (ar0 p.wants), .sh (.lst (p.names.map .str))]) := hz0 rfl (hF0 C p (by omega))
 have r4 : bb0 (eFn (K3 C) (aa0 (eVar 4) (aa0 (eVar 5) aNil))) [.ow (.ins C []), .sh (.lst (p.soils.map .int)), .sh (.int p.top), .sh (.lst (p.crops.map aj0)), .sh (ar0 p.wants), .sh (.lst (p.names.map .str))] = some (.nx [.ow (.ins C []), .sh (.lst (p.soils.map .int)), .sh (.int p.top), .sh (.lst (p.crops.map aj0)), .sh (ar0 p.wants), .sh (.lst (p.names.map .str))]) := bh0 rfl (iA0 C p hp)
 have hbars : (ao0 bj0 (aa0 (aN0 1 (iLst (eVar 3)) (am0 0) be0 (eFn (X1 C) (aa0 (e2 φIx (bVar 0) (eC (.int 4))) (aa0 (eVar 6) aNil)))) aNil)) [.ow (.ins C [("soils", .tup (p.soils.map .int)), ("top", .int p.top), ("changes", .tup (p.crops.map fun c => .int c.change)), ("harvests", .tup (p.crops.map fun c => .int c.harvest)), ("gaps", .tup (p.crops.map fun c => .int c.gap))]), .sh (.lst (p.soils.map .int)), .sh (.int p.top), .sh (.lst (p.crops.map aj0)), .sh (ar0 p.wants), .sh (.lst (p.names.map .str))] = some (.tup (p.crops.map fun c => rowT (bV0 p c))) := by
  have e := aR0 (n := 1) (it := iLst (eVar 3)) (bd := am0 0) (f := eFn (X1 C) (aa0 (e2 φIx (bVar 0) (eC (.int 4))) (aa0 (eVar 6) aNil))) (G := mv0 p) (ε := [.ow (.ins C [("soils", .tup (p.soils.map .int)), ("top", .int p.top), ("changes", .tup (p.crops.map fun c => .int c.change)), ("harvests", .tup (p.crops.map fun c => .int c.harvest)), ("gaps", .tup (p.crops.map fun c => .int c.gap))]), .sh (.lst (p.soils.map .int)), .sh (.int p.top), .sh (.lst (p.crops.map aj0)), .sh (ar0 p.wants), .sh (.lst (p.names.map .str))]) (ts := p.crops.map aj0) rfl (by rw [List.length_map]; unfold big; omega) fun t ht => by
   obtain ⟨c, hc, rfl⟩ := List.mem_map.mp ht
   have b1 : φIx (aj0 c) (.int 4) = some (.lst (c.bars.map .str)) := az0 _ 4 _ rfl
   have b2 := ik0 C p c.bars (hp.bars c hc) (hp.bar c hc) hf
   have b3 : mv0 p (aj0 c) = rowT (bV0 p c) := by
    show T.tup ((c.bars.map T.str).map (jA0 p)) = T.tup ((c.bars.map (num p)).map intT)
    rw [List.map_map, List.map_map]
    rfl
   refine ⟨_, rfl, ?_⟩
   rw [b3]
   simp_arith! [List.replicate_one, List.singleton_append, b1, b2]
   rfl
  refine (bw0 e rfl).trans ?_
  rw [List.map_map]
  congr 2
  apply List.map_congr_left
  intro c _
  show T.tup ((c.bars.map T.str).map (jA0 p)) = T.tup ((c.bars.map (num p)).map intT)
  rw [List.map_map, List.map_map]
  rfl
 have hwants : (ao0 bj0 (aa0 (aN0 2 (fK0 (eVar 4)) (bP0 0 1) be0 (eTup (aa0 (eBM cG0 (bVar 7) (aa0 (bVar 0) aNil)) (aa0 (e2 φIx (bVar 1) (eC (.int 0))) (aa0 (e2 φIx (bVar 1) (eC (.int 1))) aNil))))) aNil)) [.ow (.ins C [("soils", .tup (p.soils.map .int)), ("top", .int p.top), ("changes", .tup (p.crops.map fun c => .int c.change)), ("harvests", .tup (p.crops.map fun c => .int c.harvest)), ("gaps", .tup (p.crops.map fun c => .int c.gap)), ("bars", .tup (p.crops.map fun c => rowT (bV0 p c)))]), .sh (.lst (p.soils.map .int)), .sh (.int p.top), .sh (.lst (p.crops.map aj0)), .sh (ar0 p.wants), .sh (.lst (p.names.map .str))] = some (.tup (p.wants.map fun x => .tup [intT (num p x.1), .int x.2.1, .int x.2.2])) := by
  have hi : fK0 (eVar 4) [.ow (.ins C [("soils", .tup (p.soils.map .int)), ("top", .int p.top), ("changes", .tup (p.crops.map fun c => .int c.change)), ("harvests", .tup (p.crops.map fun c => .int c.harvest)), ("gaps", .tup (p.crops.map fun c => .int c.gap)), ("bars", .tup (p.crops.map fun c => rowT (bV0 p c)))]), .sh (.lst (p.soils.map .int)), .sh (.int p.top), .sh (.lst (p.crops.map aj0)), .sh (ar0 p.wants), .sh (.lst (p.names.map .str))] = some (p.wants.map fun x => .tup [.str x.1, .tup [.int x.2.1, .int x.2.2]]) := by
   show some ((p.wants.map fun x => (x.1, T.tup [.int x.2.1, .int x.2.2])).map fun kt => T.tup [.str kt.1, kt.2]) = _
   rw [List.map_map]
   rfl
  have e := aR0 (n := 2) (bd := bP0 0 1) (f := eTup (aa0 (eBM cG0 (bVar 7) (aa0 (bVar 0) aNil)) (aa0 (e2 φIx (bVar 1) (eC (.int 0))) (aa0 (e2 φIx (bVar 1) (eC (.int 1))) aNil)))) (G := oJ0 p) hi (by rw [List.length_map]; have := hp.fewW; unfold big; omega) fun t ht => by
   obtain ⟨⟨n, a, b⟩, hx, rfl⟩ := List.mem_map.mp ht
   have hn : n ∈ p.names := hp.wants _ hx
   have c1 : φIx (.tup [.int a, .int b]) (.int 0) = some (.int a) := az0 _ 0 _ rfl
   have c2 : φIx (.tup [.int a, .int b]) (.int 1) = some (.int b) := az0 _ 1 _ rfl
   have c3 := hE0 p.names n hn (by rw [List.length_map]; omega)
   have c4 : ∀ (x y z : T), (if ([x, y, z] : List T).length <= big then some (T.tup [x, y, z]) else none) = some (T.tup [x, y, z]) := fun x y z => rfl
   refine ⟨[.sh (.str n), .sh (.tup [.int a, .int b])] ++ [.ow (.ins C [("soils", .tup (p.soils.map .int)), ("top", .int p.top), ("changes", .tup (p.crops.map fun c => .int c.change)), ("harvests", .tup (p.crops.map fun c => .int c.harvest)), ("gaps", .tup (p.crops.map fun c => .int c.gap)), ("bars", .tup (p.crops.map fun c => rowT (bV0 p c)))]), .sh (.lst (p.soils.map .int)), .sh (.int p.top), .sh (.lst (p.crops.map aj0)), .sh (ar0 p.wants), .sh (.lst (p.names.map .str))], rfl, ?_⟩
   simp_arith! [List.cons_append, List.nil_append, c1, c2, c3, c4]
   rfl
  refine (bw0 e rfl).trans ?_
  rw [List.map_map]
  rfl
 have hdepth : (ao0 hQ0 (aa0 (eC (.int 1)) (aa0 (ao0 φMax (aa0 (eFld C "gaps" (bVar 0)) aNil)) aNil))) [.ow (.ins C [("soils", .tup (p.soils.map .int)), ("top", .int p.top), ("changes", .tup (p.crops.map fun c => .int c.change)), ("harvests", .tup (p.crops.map fun c => .int c.harvest)), ("gaps", .tup (p.crops.map fun c => .int c.gap)), ("bars", .tup (p.crops.map fun c => rowT (bV0 p c))), ("wants", .tup (p.wants.map fun x => .tup [intT (num p x.1), .int x.2.1, .int x.2.2]))]), .sh (.lst (p.soils.map .int)), .sh (.int p.top), .sh (.lst (p.crops.map aj0)), .sh (ar0 p.wants), .sh (.lst (p.names.map .str))] = some (.int (depth p)) := by
  have hg : eFld C "gaps" (bVar 0) [.ow (.ins C [("soils", .tup (p.soils.map .int)), ("top", .int p.top), ("changes", .tup (p.crops.map fun c => .int c.change)), ("harvests", .tup (p.crops.map fun c => .int c.harvest)), ("gaps", .tup (p.crops.map fun c => .int c.gap)), ("bars", .tup (p.crops.map fun c => rowT (bV0 p c))), ("wants", .tup (p.wants.map fun x => .tup [intT (num p x.1), .int x.2.1, .int x.2.2]))]), .sh (.lst (p.soils.map .int)), .sh (.int p.top), .sh (.lst (p.crops.map aj0)), .sh (ar0 p.wants), .sh (.lst (p.names.map .str))] = some (.tup (p.crops.map fun c => .int c.gap)) := by
   show (if C = C then _ else _) = _
   rw [if_pos rfl]
   rfl
  have hm : ao0 φMax (aa0 (eFld C "gaps" (bVar 0)) aNil) [.ow (.ins C [("soils", .tup (p.soils.map .int)), ("top", .int p.top), ("changes", .tup (p.crops.map fun c => .int c.change)), ("harvests", .tup (p.crops.map fun c => .int c.harvest)), ("gaps", .tup (p.crops.map fun c => .int c.gap)), ("bars", .tup (p.crops.map fun c => rowT (bV0 p c))), ("wants", .tup (p.wants.map fun x => .tup [intT (num p x.1), .int x.2.1, .int x.2.2]))]), .sh (.lst (p.soils.map .int)), .sh (.int p.top), .sh (.lst (p.crops.map aj0)), .sh (ar0 p.wants), .sh (.lst (p.names.map .str))] = (match p.crops.map (·.gap) with | [] => none | g :: gs => some (.int (maxI g gs))) := by
   have e3 : (p.crops.map fun c => T.int c.gap) = (p.crops.map (·.gap)).map T.int := by rw [List.map_map]; rfl
   unfold ao0 aa0 aNil
   rw [hg, e3]
   show (cU0 ((p.crops.map (·.gap)).map T.int)).bind maxO = _
   rw [eb0]
   cases p.crops.map (·.gap) <;> rfl
  have hs := hp.some
  unfold depth
  cases hc : p.crops.map (·.gap) with
  | nil =>
   have : (p.crops.map (·.gap)).length = 0 := by rw [hc]; rfl
   rw [List.length_map] at this
   omega
  | cons g gs =>
   rw [hc] at hm
   exact fz0 rfl hm rfl
 have u0 : cg0 C 0 "soils" (ao0 bj0 (aa0 (bVar 1) aNil)) [.ow (.ins C []), .sh (.lst (p.soils.map .int)), .sh (.int p.top), .sh (.lst (p.crops.map aj0)), .sh (ar0 p.wants), .sh (.lst (p.names.map .str))] = some (.nx [.ow (.ins C [("soils", .tup (p.soils.map .int))]), .sh (.lst (p.soils.map .int)), .sh (.int p.top), .sh (.lst (p.crops.map aj0)), .sh (ar0 p.wants), .sh (.lst (p.names.map .str))]) := by
  refine (cx0 (t := (("soils", .tup (p.soils.map .int)) : Str × T).2) rfl (by show 0 < 1000; decide) ?_).trans ?_
  ·exact rfl
  ·rfl
 have u1 : cg0 C 0 "top" (eVar 2) [.ow (.ins C [("soils", .tup (p.soils.map .int))]), .sh (.lst (p.soils.map .int)), .sh (.int p.top), .sh (.lst (p.crops.map aj0)), .sh (ar0 p.wants), .sh (.lst (p.names.map .str))] = some (.nx [.ow (.ins C [("soils", .tup (p.soils.map .int)), ("top", .int p.top)]), .sh (.lst (p.soils.map .int)), .sh (.int p.top), .sh (.lst (p.crops.map aj0)), .sh (ar0 p.wants), .sh (.lst (p.names.map .str))]) := by
  refine (cx0 (t := (("top", .int p.top) : Str × T).2) rfl (by show 1 < 1000; decide) ?_).trans ?_
  ·exact rfl
  ·rfl
 have u2 : cg0 C 0 "changes" (ao0 bj0 (aa0 (aN0 1 (iLst (eVar 3)) (am0 0) be0 (e2 φIx (bVar 0) (eC (.int 1)))) aNil)) [.ow (.ins C [("soils", .tup (p.soils.map .int)), ("top", .int p.top)]), .sh (.lst (p.soils.map .int)), .sh (.int p.top), .sh (.lst (p.crops.map aj0)), .sh (ar0 p.wants), .sh (.lst (p.names.map .str))] = some (.nx [.ow (.ins C [("soils", .tup (p.soils.map .int)), ("top", .int p.top), ("changes", .tup (p.crops.map fun c => .int c.change))]), .sh (.lst (p.soils.map .int)), .sh (.int p.top), .sh (.lst (p.crops.map aj0)), .sh (ar0 p.wants), .sh (.lst (p.names.map .str))]) := by
  refine (cx0 (t := (("changes", .tup (p.crops.map fun c => .int c.change)) : Str × T).2) rfl (by show 2 < 1000; decide) ?_).trans ?_
  ·exact (gm0 p 1 (fun c => .int c.change) (fun c => az0 _ 1 _ rfl) hf _ rfl)
  ·rfl
 have u3 : cg0 C 0 "harvests" (ao0 bj0 (aa0 (aN0 1 (iLst (eVar 3)) (am0 0) be0 (e2 φIx (bVar 0) (eC (.int 2)))) aNil)) [.ow (.ins C [("soils", .tup (p.soils.map .int)), ("top", .int p.top), ("changes", .tup (p.crops.map fun c => .int c.change))]), .sh (.lst (p.soils.map .int)), .sh (.int p.top), .sh (.lst (p.crops.map aj0)), .sh (ar0 p.wants), .sh (.lst (p.names.map .str))] = some (.nx [.ow (.ins C [("soils", .tup (p.soils.map .int)), ("top", .int p.top), ("changes", .tup (p.crops.map fun c => .int c.change)), ("harvests", .tup (p.crops.map fun c => .int c.harvest))]), .sh (.lst (p.soils.map .int)), .sh (.int p.top), .sh (.lst (p.crops.map aj0)), .sh (ar0 p.wants), .sh (.lst (p.names.map .str))]) := by
  refine (cx0 (t := (("harvests", .tup (p.crops.map fun c => .int c.harvest)) : Str × T).2) rfl (by show 3 < 1000; decide) ?_).trans ?_
  ·exact (gm0 p 2 (fun c => .int c.harvest) (fun c => az0 _ 2 _ rfl) hf _ rfl)
  ·rfl
 have u4 : cg0 C 0 "gaps" (ao0 bj0 (aa0 (aN0 1 (iLst (eVar 3)) (am0 0) be0 (e2 φIx (bVar 0) (eC (.int 3)))) aNil)) [.ow (.ins C [("soils", .tup (p.soils.map .int)), ("top", .int p.top), ("changes", .tup (p.crops.map fun c => .int c.change)), ("harvests", .tup (p.crops.map fun c => .int c.harvest))]), .sh (.lst (p.soils.map .int)), .sh (.int p.top), .sh (.lst (p.crops.map aj0)), .sh (ar0 p.wants), .sh (.lst (p.names.map .str))] = some (.nx [.ow (.ins C [("soils", .tup (p.soils.map .int)), ("top", .int p.top), ("changes", .tup (p.crops.map fun c => .int c.change)), ("harvests", .tup (p.crops.map fun c => .int c.harvest)), ("gaps", .tup (p.crops.map fun c => .int c.gap))]), .sh (.lst (p.soils.map .int)), .sh (.int p.top), .sh (.lst (p.crops.map aj0)), .sh (ar0 p.wants), .sh (.lst (p.names.map .str))]) := by
  refine (cx0 (t := (("gaps", .tup (p.crops.map fun c => .int c.gap)) : Str × T).2) rfl (by show 4 < 1000; decide) ?_).trans ?_
  ·exact (gm0 p 3 (fun c => .int c.gap) (fun c => az0 _ 3 _ rfl) hf _ rfl)
  ·rfl
 have u5 : cg0 C 0 "bars" (ao0 bj0 (aa0 (aN0 1 (iLst (eVar 3)) (am0 0) be0 (eFn (X1 C) (aa0 (e2 φIx (bVar 0) (eC (.int 4))) (aa0 (eVar 6) aNil)))) aNil)) [.ow (.ins C [("soils", .tup (p.soils.map .int)), ("top", .int p.top), ("changes", .tup (p.crops.map fun c => .int c.change)), ("harvests", .tup (p.crops.map fun c => .int c.harvest)), ("gaps", .tup (p.crops.map fun c => .int c.gap))]), .sh (.lst (p.soils.map .int)), .sh (.int p.top), .sh (.lst (p.crops.map aj0)), .sh (ar0 p.wants), .sh (.lst (p.names.map .str))] = some (.nx [.ow (.ins C [("soils", .tup (p.soils.map .int)), ("top", .int p.top), ("changes", .tup (p.crops.map fun c => .int c.change)), ("harvests", .tup (p.crops.map fun c => .int c.harvest)), ("gaps", .tup (p.crops.map fun c => .int c.gap)), ("bars", .tup (p.crops.map fun c => rowT (bV0 p c)))]), .sh (.lst (p.soils.map .int)), .sh (.int p.top), .sh (.lst (p.crops.map aj0)), .sh (ar0 p.wants), .sh (.lst (p.names.map .str))]) := by
  refine (cx0 (t := (("bars", .tup (p.crops.map fun c => rowT (bV0 p c))) : Str × T).2) rfl (by show 5 < 1000; decide) ?_).trans ?_
  ·exact hbars
  ·rfl
 have u6 : cg0 C 0 "wants" (ao0 bj0 (aa0 (aN0 2 (fK0 (eVar 4)) (bP0 0 1) be0 (eTup (aa0 (eBM cG0 (bVar 7) (aa0 (bVar 0) aNil)) (aa0 (e2 φIx (bVar 1) (eC (.int 0))) (aa0 (e2 φIx (bVar 1) (eC (.int 1))) aNil))))) aNil)) [.ow (.ins C [("soils", .tup (p.soils.map .int)), ("top", .int p.top), ("changes", .tup (p.crops.map fun c => .int c.change)), ("harvests", .tup (p.crops.map fun c => .int c.harvest)), ("gaps", .tup (p.crops.map fun c => .int c.gap)), ("bars", .tup (p.crops.map fun c => rowT (bV0 p c)))]), .sh (.lst (p.soils.map .int)), .sh (.int p.top), .sh (.lst (p.crops.map aj0)), .sh (ar0 p.wants), .sh (.lst (p.names.map .str))] = some (.nx [.ow (.ins C [("soils", .tup (p.soils.map .int)), ("top", .int p.top), ("changes", .tup (p.crops.map fun c => .int c.change)), ("harvests", .tup (p.crops.map fun c => .int c.harvest)), ("gaps", .tup (p.crops.map fun c => .int c.gap)), ("bars", .tup (p.crops.map fun c => rowT (bV0 p c))), ("wants", .tup (p.wants.map fun x => .tup [intT (num p x.1), .int x.2.1, .int x.2.2]))]), .sh (.lst (p.soils.map .int)), .sh (.int p.top), .sh (.lst (p.crops.map aj0)), .sh (ar0 p.wants), .sh (.lst (p.names.map .str))]) := by
  refine (cx0 (t := (("wants", .tup (p.wants.map fun x => .tup [intT (num p x.1), .int x.2.1, .int x.2.2])) : Str × T).2) rfl (by show 6 < 1000; decide) ?_).trans ?_
  ·exact hwants
  ·rfl
 have u7 : cg0 C 0 "depth" (ao0 hQ0 (aa0 (eC (.int 1)) (aa0 (ao0 φMax (aa0 (eFld C "gaps" (bVar 0)) aNil)) aNil))) [.ow (.ins C [("soils", .tup (p.soils.map .int)), ("top", .int p.top), ("changes", .tup (p.crops.map fun c => .int c.change)), ("harvests", .tup (p.crops.map fun c => .int c.harvest)), ("gaps", .tup (p.crops.map fun c => .int c.gap)), ("bars", .tup (p.crops.map fun c => rowT (bV0 p c))), ("wants", .tup (p.wants.map fun x => .tup [intT (num p x.1), .int x.2.1, .int x.2.2]))]), .sh (.lst (p.soils.map .int)), .sh (.int p.top), .sh (.lst (p.crops.map aj0)), .sh (ar0 p.wants), .sh (.lst (p.names.map .str))] = some (.nx [.ow (.ins C [("soils", .tup (p.soils.map .int)), ("top", .int p.top), ("changes", .tup (p.crops.map fun c => .int c.change)), ("harvests", .tup (p.crops.map fun c => .int c.harvest)), ("gaps", .tup (p.crops.map fun c => .int c.gap)), ("bars", .tup (p.crops.map fun c => rowT (bV0 p c))), ("wants", .tup (p.wants.map fun x => .tup [intT (num p x.1), .int x.2.1, .int x.2.2])), ("depth", .int (depth p))]), .sh (.lst (p.soils.map .int)), .sh (.int p.top), .sh (.lst (p.crops.map aj0)), .sh (ar0 p.wants), .sh (.lst (p.names.map .str))]) := by
  refine (cx0 (t := (("depth", .int (depth p)) : Str × T).2) rfl (by show 7 < 1000; decide) ?_).trans ?_
  ·exact hdepth
  ·rfl
 rw [aC0 r1, aC0 r2, aC0 r3, aC0 r4, aC0 u0, aC0 u1, aC0 u2, aC0 u3, aC0 u4, aC0 u5, aC0 u6, u7]
 show (if C = C then some (aM0 p) else none) = _
 rw [if_pos rfl]
abbrev scrT (ns : List Int) : T := .scr ns
theorem ng0 (C : Addr) (ns : List Int) (k : Nat) : Z4 C [scrT ns, intT k] = some (false, .int (ns.getD k 0)) := by
 unfold Z4 Wd0
 refine (aF0 (ε := [.sh (scrT ns), .sh (intT k)]) rfl rfl).trans ?_
 by_cases h : k < ns.length
 ·have h1 : (k : Int) < (ns.length : Int) := by omega
  have h2 : φIx (.scr ns) (intT k) = some (.int ns[k]) := by
   show (L2.atI ns (k : Int)).map T.int = _
   rw [L2.atI_nat (List.getElem?_eq_getElem h)]
   rfl
  simp_arith! [h1, h2]
  rw [List.getD_eq_getElem?_getD, List.getElem?_eq_getElem h]
  rfl
 ·have h1 : ¬ (k : Int) < (ns.length : Int) := by omega
  simp_arith! [h1]
  rw [List.getD_eq_getElem?_getD, List.getElem?_eq_none (by omega)]
  rfl
theorem bO0 {gs : List T -> Option (Bool × T)} {E F : En -> Option T} {ε : En} {s t u : T} (hE : E ε = some s) (hF : F ε = some t) (hp : gs [s, t] = some (false, u)) : eFn gs (aa0 E (aa0 F aNil)) ε = some u := by
 unfold eFn aa0 aNil
 simp only [hE, hF, Option.bind_some, hp, noD, Bool.false_and, Bool.false_eq_true, if_false]
theorem eV0 {E : En -> Option T} {ε : En} {t : T} (hE : E ε = some t) : (sRet false E ε).bind ct0 = some (false, t) := by
 unfold sRet
 rw [hE]
 rfl
def aA0 (ns : List Int) (k : Nat) : Int := (ns.getD (k % 61) 0 + 7919 * (k : Int)) * (48271 + 2 * (k : Int)) % 2147483647
theorem cF0 (C : Addr) (ns : List Int) (k : Nat) (hk : k <= 1000) : j0 C [scrT ns, intT k] = some (false, .int (aA0 ns k)) := by
 unfold j0 Vd0
 refine (aF0 (ε := [.sh (scrT ns), .sh (intT k)]) rfl rfl).trans ?_
 have c := ng0 C ns (k % 61)
 have m1 : φMod (intT k) (.int 61) = some (intT (k % 61)) := by
  simp only [intT, φMod]
  rw [if_pos (by omega)]
  rw [Int.natCast_emod]
  rfl
 have m2 : ∀ i j : Int, -1000000 < j -> j < 1000000 -> φMul (.int i) (.int j) = some (.int (i * j)) := fun i j h1 h2 => by
  simp only [φMul]
  rw [if_pos ⟨by omega, by omega⟩]
 have m3 : ∀ i : Int, φMod (.int i) (.int 2147483647) = some (.int (i % 2147483647)) := fun i => by
  simp only [φMod]
  rw [if_pos (by omega)]
 have s0 : e2 φMod (bVar 1) (eC (.int 61)) [.sh (scrT ns), .sh (intT k)] = some (intT (k % 61)) := (ap0 (s := intT k) (t := .int 61) rfl rfl).trans m1
 have s1 : eFn (Z4 C) (aa0 (eVar 0) (aa0 (e2 φMod (bVar 1) (eC (.int 61))) aNil)) [.sh (scrT ns), .sh (intT k)] = some (.int (ns.getD (k % 61) 0)) := bO0 rfl s0 c
 have s2 : e2 φMul (eC (.int 7919)) (bVar 1) [.sh (scrT ns), .sh (intT k)] = some (.int (7919 * (k : Int))) := (ap0 (s := .int 7919) (t := intT k) rfl rfl).trans (m2 _ _ (by omega) (by omega))
 have s3 := (ap0 (φ := φAdd) s1 s2)
 have s4 : e2 φMul (eC (.int 2)) (bVar 1) [.sh (scrT ns), .sh (intT k)] = some (.int (2 * (k : Int))) := (ap0 (s := .int 2) (t := intT k) rfl rfl).trans (m2 _ _ (by omega) (by omega))
 have s5 := (ap0 (φ := φAdd) (f := eC (.int 48271)) (s := .int 48271) rfl s4)
 have s6 := (ap0 (φ := φMul) s3 s5).trans (m2 _ _ (by omega) (by omega))
 have s7 := (ap0 (φ := φMod) (g := eC (.int 2147483647)) (t := .int 2147483647) s6 rfl).trans (m3 _)
 exact eV0 s7
def cR0 (p : Plot) : T := .lst [.lst (p.soils.map .int), .int p.top, .lst (p.crops.map aj0), ar0 p.wants]
theorem kw0 (C : Addr) (p : Plot) (hf : p.crops.length <= 5) : K7 C [aB0 p] = some (true, cR0 p) := by
 unfold K7 je0
 refine (aF0 (ε := [.sh (aB0 p), .un]) rfl rfl).trans ?_
 have a0 : φIx (aB0 p) (.int 0) = some (.lst (p.soils.map .int)) := az0 _ 0 _ rfl
 have a1 : φIx (aB0 p) (.int 1) = some (.int p.top) := az0 _ 1 _ rfl
 have a2 : φIx (aB0 p) (.int 2) = some (.lst (p.crops.map aj0)) := az0 _ 2 _ rfl
 have a3 : φIx (aB0 p) (.int 3) = some (ar0 p.wants) := az0 _ 3 _ rfl
 have hi : iLst (e2 φIx (bVar 0) (eC (.int 2))) [.sh (aB0 p), .un] = some (p.crops.map aj0) := by simp_arith! [a2]
 have e := aR0 (n := 1) (bd := am0 0) (f := e2 cl0 (eSlT (bVar 0) (bd0 none) (bd0 (some (eC (.int 4))))) (eTup (aa0 (ao0 dq0 (aa0 (e2 φIx (bVar 0) (eC (.int 4))) aNil)) aNil))) (G := id) hi (by rw [List.length_map]; unfold big; omega) fun t ht => by
  obtain ⟨c, hc, rfl⟩ := List.mem_map.mp ht
  have b4 : φIx (aj0 c) (.int 4) = some (.lst (c.bars.map .str)) := az0 _ 4 _ rfl
  have b5 : ∀ x : T, (if ([x] : List T).length <= big then some (T.tup [x]) else none) = some (T.tup [x]) := fun x => rfl
  refine ⟨[.sh (aj0 c), .sh (aB0 p), .un], rfl, ?_⟩
  simp_arith! [b4, dq0, b5, aj0]
  rfl
 rw [List.map_id] at e
 have r1 : sSet 1 (aN0 1 (iLst (e2 φIx (bVar 0) (eC (.int 2)))) (am0 0) be0 (e2 cl0 (eSlT (bVar 0) (bd0 none) (bd0 (some (eC (.int 4))))) (eTup (aa0 (ao0 dq0 (aa0 (e2 φIx (bVar 0) (eC (.int 4))) aNil)) aNil)))) [.sh (aB0 p), .un] = some (.nx [.sh (aB0 p), .sh (.lst (p.crops.map aj0))]) := by
  unfold sSet
  rw [e]
  rfl
 rw [aC0 r1]
 have b6 : ∀ x y z w : T, (if ([x, y, z, w] : List T).length <= big then some (T.lst [x, y, z, w]) else none) = some (T.lst [x, y, z, w]) := fun x y z w => rfl
 have b7 : io0 [ar0 p.wants] = some (ar0 p.wants) := rfl
 simp_arith! [a0, a1, a3, dq0, b7, b6]
 rfl
theorem bv0 (i j : Int) (h : 0 < j) : φMod (.int i) (.int j) = some (.int (i % j)) := by
 simp only [φMod]
 rw [if_pos h]
theorem kW0 (i j : Int) (h1 : -1000000 < j) (h2 : j < 1000000) : φMul (.int i) (.int j) = some (.int (i * j)) := by
 simp only [φMul]
 rw [if_pos ⟨by omega, by omega⟩]
theorem iv0 (i j : Int) (h : 0 < j) (h2 : j < 1000) : φDiv (.int i) (.int j) = some (.int (i / j)) := by
 simp only [φDiv]
 rw [if_pos ⟨h, by omega⟩]
theorem eqI (i j : Int) : φEq (.int i) (.int j) = some (.bl (decide (i = j))) := by
 show some (T.bl (decide (V.int i = V.int j))) = _
 by_cases h : i = j
 ·subst h; simp
 ·rw [decide_eq_false h, decide_eq_false fun z => h (V.int.inj z)]
theorem aW0 {i : Nat} {f : En -> Option T} {ε : En} {t : T} (h : f ε = some t) : sSet i f ε = some (.nx (ε.set i (.sh t))) := by
 unfold sSet
 rw [h]
 rfl
theorem gy0 {i : Nat} {f : En -> Option T} {ε : En} {t : T} (h : f ε = some t) (hi : isI t = false) : cy0 i f ε = some (.nx (ε.set i (.ow t))) := by
 unfold cy0
 rw [h]
 show (if isI t = true then none else _) = _
 rw [hi]
 rfl
theorem ex0 {q : En -> Option Bool} {a b : En -> Option Fl} {ε : En} {c : Bool} (h : q ε = some c) : sIf q a b ε = if c = true then a ε else b ε := by
 unfold sIf
 rw [h]
 rfl
theorem cq0 {f : En -> Option T} {ε : En} {b : Bool} (h : f ε = some (.bl b)) : qB f ε = some b := by
 unfold qB
 rw [h]
theorem ret1 {o : Bool} {E : En -> Option T} {ε : En} {t : T} (h : E ε = some t) : sRet o E ε = some (.rt o t) := by
 unfold sRet
 rw [h]
 rfl
theorem cr0 {g h : En -> Option Fl} {ε ε1 : En} (h1 : g ε = some (.nx ε1)) : (sSeq g h ε).bind ct0 = (h ε1).bind ct0 := by rw [aC0 h1]
theorem oV0 {g h : En -> Option Fl} {ε : En} {o : Bool} {t : T} (h1 : g ε = some (.rt o t)) : sSeq g h ε = some (.rt o t) := by
 unfold sSeq
 rw [h1]
 rfl
theorem oO0 {g h : En -> Option Fl} {ε : En} {o : Bool} {t : T} (h1 : g ε = some (.rt o t)) : (sSeq g h ε).bind ct0 = some (o, t) := by
 rw [oV0 h1]
 rfl
theorem aw0 {f : En -> Option T} {g : En -> Option (List T)} {ε : En} {t : T} {ts : List T} (h1 : f ε = some t) (h2 : g ε = some ts) : aa0 f g ε = some (t :: ts) := by
 unfold aa0
 rw [h1, Option.bind_some, h2]
 rfl
theorem dD0 {g : En -> Option (List T)} {ε : En} {ts : List T} (h : g ε = some ts) (hl : ts.length <= big) : eTup g ε = some (.tup ts) := by
 unfold eTup
 rw [h]
 show (if _ then _ else _) = _
 rw [if_pos hl]
theorem lv0 {g : En -> Option (List T)} {ε : En} {ts : List T} (h : g ε = some ts) (hl : ts.length <= big) : eLst g ε = some (.lst ts) := by
 unfold eLst
 rw [h]
 show (if _ then _ else _) = _
 rw [if_pos hl]
theorem nW0 {i : Nat} {f : En -> Option T} {ε : En} {ts : List T} {t : T} (h0 : ε[i]? = some (.ow (.lst ts))) (hl : ts.length < big) (hf : f ε = some t) : sApp i f ε = some (.nx (ε.set i (.ow (.lst (ts ++ [t]))))) := by
 unfold sApp
 rw [h0]
 show (f ε).bind _ = _
 rw [hf]
 show (if _ then _ else _) = _
 rw [if_pos hl]
theorem lg0 {i : Nat} {fk fv : En -> Option T} {ε : En} {kts : List (Str × T)} {k : Str} {v : T} (h0 : ε[i]? = some (.ow (.dct kts))) (hl : kts.length < big) (hv : fv ε = some v) (hk : fk ε = some (.str k)) : BD.sDPut i fk fv ε = some (.nx (ε.set i (.ow (.dct (putT kts k v))))) := by
 unfold BD.sDPut
 rw [h0]
 show (fv ε).bind _ = _
 rw [hv, Option.bind_some, hk]
 show (if _ then _ else _) = _
 rw [if_pos hl]
theorem cA0 {g : En -> Option (List T)} {ε : En} {n : Nat} (h : g ε = some [intT n]) (hn : n < 1000000) : aO0 g ε = some (bf0 0 n) := by
 unfold aO0
 rw [h]
 show (if -(2 ^ 62) <= (n : Int) /\ (n : Int) < 2 ^ 62 then some (bf0 0 (n : Int).toNat) else none) = _
 rw [if_pos ⟨by omega, by omega⟩, Int.toNat_natCast]
theorem ff0 (l : List Int) (m lo hi : Int) (h0 : 0 <= m) (h1 : m < l.length) (hl : ∀ x ∈ l, lo <= x /\ x <= hi) : ∃ v, φIx (.lst (l.map .int)) (.int m) = some (.int v) /\ lo <= v /\ v <= hi := by
 obtain ⟨k, rfl⟩ := Int.eq_ofNat_of_zero_le h0
 have hk : k < l.length := by omega
 exact ⟨l[k], db0 _ k _ (by rw [List.getElem?_map, List.getElem?_eq_getElem hk]; rfl), hl _ (List.getElem_mem hk)⟩
theorem gX0 {n : Nat} {ε : En} {bd : T -> En -> Option En} {f : En -> Option T} {α : Type} (E : α -> T) (R : T -> α -> Prop) : ∀ (ts : List T),
  (∀ t, t ∈ ts -> ∃ ε1 a, bd t (List.replicate n .un ++ ε) = some ε1 /\ f ε1 = some (E a) /\ R t a) -> ∃ as : List α, cL0 n ε bd be0 f ts = some (as.map E) /\ as.length = ts.length /\ ∀ (i : Nat) t, ts[i]? = some t -> ∃ a, as[i]? = some a /\ R t a
 | [], _ => ⟨[], rfl, rfl, fun i t h => by simp at h⟩
 | t :: ts, h => by
  obtain ⟨ε1, a, h1, h2, h3⟩ := h t (List.mem_cons_self ..)
  obtain ⟨as, h4, h5, h6⟩ := gX0 E R ts fun u hu => h u (List.mem_cons_of_mem _ hu)
  refine ⟨a :: as, ?_, by simp [h5], fun i u hu => ?_⟩
  ·unfold cL0
   have q : be0 ε1 = some true := rfl
   rw [h1, Option.bind_some, q, Option.bind_some, if_pos rfl, h2, Option.bind_some, h4]
   rfl
  ·cases i with
   | zero => simp at hu; subst hu; exact ⟨a, rfl, h3⟩
   | succ i =>
    obtain ⟨b, q1, q2⟩ := h6 i u (by simpa using hu)
    exact ⟨b, by simpa using q1, q2⟩
theorem eX0 {n : Nat} {it : En -> Option (List T)} {ε : En} {bd : T -> En -> Option En} {f : En -> Option T} {α : Type} {ts : List T} (E : α -> T) (R : T -> α -> Prop) (hi : it ε = some ts) (hl : ts.length <= big)
  (h : ∀ t, t ∈ ts -> ∃ ε1 a, bd t (List.replicate n .un ++ ε) = some ε1 /\ f ε1 = some (E a) /\ R t a) : ∃ as : List α, aN0 n it bd be0 f ε = some (.lst (as.map E)) /\ as.length = ts.length /\ ∀ (i : Nat) t, ts[i]? = some t -> ∃ a, as[i]? = some a /\ R t a := by
 obtain ⟨as, h1, h2⟩ := gX0 (ε := ε) (n := n) (bd := bd) (f := f) E R ts h
 refine ⟨as, ?_, h2⟩
 unfold aN0
 rw [hi, Option.bind_some, if_pos hl, h1]
 rfl
theorem dk0 {n i : Nat} (h : i < n) : (bf0 0 n)[i]? = some (intT i) := by
 rw [bJ0, List.getElem?_map, List.getElem?_range h]
 rfl
theorem bi0 (n : Nat) : (bf0 0 n).length = n := by rw [bJ0, List.length_map, List.length_range]
theorem fn0 {n i : Nat} {t : T} (h : (bf0 0 n)[i]? = some t) : i < n /\ t = intT i := by
 obtain ⟨h1, h2⟩ := eG0 h
 exact ⟨h1, by rw [h2, Int.zero_add]⟩
theorem jM0 (C : Addr) (ns : List Int) : ∃ b : Nat, (1 <= b /\ b <= 3) /\ J7 C [scrT ns, .int 3] = some (false, intT b) := by
 have h0 : 0 <= aA0 ns 8 % 3 := Int.emod_nonneg _ (by decide)
 have h1 : aA0 ns 8 % 3 < 3 := Int.emod_lt_of_pos _ (by decide)
 refine ⟨(1 + aA0 ns 8 % 3).toNat, by omega, ?_⟩
 have e0 : intT (1 + aA0 ns 8 % 3).toNat = .int (1 + aA0 ns 8 % 3) := by
  show T.int _ = _
  rw [Int.toNat_of_nonneg (by omega)]
 rw [e0]
 unfold J7 qe0
 refine Eq.trans (aF0 (ε := [.sh (scrT ns), .sh (.int 3), .un]) rfl rfl) ?_
 refine Eq.trans (cr0 (aW0 (bO0 rfl rfl (cF0 C ns 8 (by decide))))) ?_
 have t1 : φEq (.int 3) (.int 3) = some (.bl true) := by rw [eqI]; rfl
 refine oO0 ?_
 refine Eq.trans (ex0 (c := true) (cq0 ((ap0 rfl rfl).trans t1))) ?_
 refine ret1 ?_
 exact ap0 (φ := φAdd) (s := .int 1) rfl ((ap0 (s := .int (aA0 ns 8)) (t := .int 3) rfl rfl).trans (bv0 _ _ (by decide)))
section
variable (C : Addr) (ns : List Int)
theorem iZ0 {ε : En} {c k : Nat} {i : Nat} (h0 : eVar 0 ε = some (scrT ns)) (h1 : bVar i ε = some (intT k)) (hk : k < 5) (hc : c <= 100) :
  eFn (j0 C) (aa0 (eVar 0) (aa0 (e2 φAdd (eC (.int (c : Int))) (e2 φMul (eC (.int 10)) (bVar i))) aNil)) ε = some (.int (aA0 ns (c + 10 * k))) := by
 have s1 : e2 φMul (eC (.int 10)) (bVar i) ε = some (.int (10 * (k : Int))) := (ap0 (s := .int 10) (t := intT k) rfl h1).trans (kW0 _ _ (by omega) (by omega))
 have s2 : e2 φAdd (eC (.int (c : Int))) (e2 φMul (eC (.int 10)) (bVar i)) ε = some (intT (c + 10 * k)) := by
  rw [ap0 (φ := φAdd) (s := .int (c : Int)) rfl s1]
  refine congrArg (fun z => some (T.int z)) ?_
  omega
 exact bO0 h0 s2 (cF0 C ns _ (by omega))
theorem iy0 (k : Nat) (names : List Str) (hn : names.length <= 5) (hk : k < names.length) (gaps : Int) (hg : 0 <= gaps /\ gaps <= 3) :
  ∃ c : Crop, Q4 C [scrT ns, intT k, .lst (names.map .str), .int gaps] = some (false, aj0 c) /\ names[k]? = some c.name /\ (-3 <= c.change /\ c.change <= 3) /\ (0 <= c.harvest /\ c.harvest <= 1000) /\ (0 <= c.gap /\ c.gap <= 3) /\ (∀ b ∈ c.bars, b ∈ names) /\ c.bars.length <= 5 := by
 have hz : ∀ (h : Int), φIx (.lst [.int 10, .int 3, .int 1001]) (.int (aA0 ns 9 % 3)) = some (.int h) -> True := fun _ _ => trivial
 obtain ⟨hv, hv1, hv2, hv3⟩ := ff0 [10, 3, 1001] (aA0 ns 9 % 3) 3 1001 (Int.emod_nonneg _ (by decide)) (Int.emod_lt_of_pos _ (by decide)) (by decide)
 have lp := bk0 (bd := am0 5) (body := sIf (qB (e2 φEq (e2 φMod (eFn (j0 C) (aa0 (eVar 0) (aa0 (e2 φAdd (e2 φAdd (eC (.int 20)) (e2 φMul (eC (.int 10)) (bVar 1))) (bVar 5)) aNil))) (eC (.int 5))) (eC (.int 1)))) (sApp 4 (e2 φIx (bVar 2) (bVar 5))) sNx)
  (fun i ε => ∃ (bs : List Str) (x : Sl), ε = [.sh (scrT ns), .sh (intT k), .sh (.lst (names.map .str)), .sh (.int gaps), .ow (.lst (bs.map .str)), x, .un, .un] /\ (∀ b ∈ bs, b ∈ names) /\ bs.length <= i)
  (bf0 0 names.length) 0 [.sh (scrT ns), .sh (intT k), .sh (.lst (names.map .str)), .sh (.int gaps), .ow (.lst []), .un, .un, .un] ⟨[], .un, rfl, (fun b hb => nomatch hb), Nat.le_refl _⟩ fun i t ε ht hI => by
   obtain ⟨hi, rfl⟩ := fn0 ht
   obtain ⟨bs, x, rfl, hb, hl⟩ := hI
   rw [Nat.zero_add] at hl ⊢
   have s1 : e2 φMul (eC (.int 10)) (bVar 1) [.sh (scrT ns), .sh (intT k), .sh (.lst (names.map .str)), .sh (.int gaps), .ow (.lst (bs.map .str)), .sh (intT i), .un, .un] = some (.int (10 * (k : Int))) := (ap0 (s := .int 10) (t := intT k) rfl rfl).trans (kW0 _ _ (by omega) (by omega))
   have s2 := ap0 (φ := φAdd) (f := eC (.int 20)) (s := .int 20) rfl s1
   have s3 : e2 φAdd (e2 φAdd (eC (.int 20)) (e2 φMul (eC (.int 10)) (bVar 1))) (bVar 5) [.sh (scrT ns), .sh (intT k), .sh (.lst (names.map .str)), .sh (.int gaps), .ow (.lst (bs.map .str)), .sh (intT i), .un, .un] = some (intT (20 + 10 * k + i)) := by
    rw [ap0 (φ := φAdd) (g := bVar 5) (t := intT i) s2 rfl]
    refine congrArg (fun z => some (T.int z)) ?_
    omega
   have s4 : eFn (j0 C) (aa0 (eVar 0) (aa0 (e2 φAdd (e2 φAdd (eC (.int 20)) (e2 φMul (eC (.int 10)) (bVar 1))) (bVar 5)) aNil)) [.sh (scrT ns), .sh (intT k), .sh (.lst (names.map .str)), .sh (.int gaps), .ow (.lst (bs.map .str)), .sh (intT i), .un, .un] = some (.int (aA0 ns (20 + 10 * k + i))) := bO0 rfl s3 (cF0 C ns _ (by omega))
   have s5 := (ap0 (φ := φMod) (g := eC (.int 5)) (t := .int 5) s4 rfl).trans (bv0 _ 5 (by decide))
   have s6 := cq0 ((ap0 (φ := φEq) (g := eC (.int 1)) (t := .int 1) s5 rfl).trans (eqI _ _))
   refine ⟨_, (if aA0 ns (20 + 10 * k + i) % 5 = 1 then [.sh (scrT ns), .sh (intT k), .sh (.lst (names.map .str)), .sh (.int gaps), .ow (.lst ((bs ++ [names[i]]).map .str)), .sh (intT i), .un, .un] else [.sh (scrT ns), .sh (intT k), .sh (.lst (names.map .str)), .sh (.int gaps), .ow (.lst (bs.map .str)), .sh (intT i), .un, .un]), rfl, .inl ?_, ?_⟩
   ·refine Eq.trans (ex0 s6) ?_
    by_cases hq : aA0 ns (20 + 10 * k + i) % 5 = 1
    ·rw [if_pos hq, if_pos (decide_eq_true hq)]
     have hx : φIx (.lst (names.map .str)) (intT i) = some (.str names[i]) := db0 _ i _ (by rw [List.getElem?_map, List.getElem?_eq_getElem hi]; rfl)
     refine Eq.trans (nW0 (ts := bs.map .str) (t := .str names[i]) rfl (by rw [List.length_map]; unfold big; omega) ((ap0 rfl rfl).trans hx)) ?_
     rw [List.map_append]
     rfl
    ·rw [if_neg hq, if_neg (by simp [hq])]
     rfl
   ·by_cases hq : aA0 ns (20 + 10 * k + i) % 5 = 1
    ·rw [if_pos hq]
     refine ⟨_, _, rfl, fun b hb' => ?_, by rw [List.length_append]; simp; omega⟩
     rcases List.mem_append.mp hb' with h | h
     ·exact hb b h
     ·rw [List.mem_singleton.mp h]; exact List.getElem_mem hi
    ·rw [if_neg hq]
     exact ⟨_, _, rfl, hb, by omega⟩
 obtain ⟨ε', hl, bs, x, rfl, hbs, hbl⟩ := lp
 rw [bi0] at hbl
 refine ⟨⟨names[k], aA0 ns (27 + 10 * k) % 7 - 3, aA0 ns (26 + 10 * k) % hv, aA0 ns (28 + 10 * k) % (gaps + 1), bs⟩, ?_, List.getElem?_eq_getElem hk, ?_, ?_, ?_, hbs, by show bs.length <= 5; omega⟩
 ·unfold Q4 Yd0
  refine Eq.trans (aF0 (ε := [.sh (scrT ns), .sh (intT k), .sh (.lst (names.map .str)), .sh (.int gaps), .un, .un, .un, .un]) rfl rfl) ?_
  refine Eq.trans (cr0 (gy0 (t := .lst []) (lv0 rfl (Nat.zero_le _)) rfl)) ?_
  refine Eq.trans (cr0 (ck0 (cA0 (n := names.length) (aw0 (bw0 rfl (by show some (T.int _) = _; rw [List.length_map])) rfl) (by omega)) hl)) ?_
  have d26 := iZ0 C ns (ε := [.sh (scrT ns), .sh (intT k), .sh (.lst (names.map .str)), .sh (.int gaps), .ow (.lst (bs.map .str)), x, .un, .un]) (c := 26) (k := k) (i := 1) rfl rfl (by omega) (by decide)
  have d9 : eFn (j0 C) (aa0 (eVar 0) (aa0 (eC (.int 9)) aNil)) [.sh (scrT ns), .sh (intT k), .sh (.lst (names.map .str)), .sh (.int gaps), .ow (.lst (bs.map .str)), x, .un, .un] = some (.int (aA0 ns 9)) := bO0 rfl rfl (cF0 C ns 9 (by decide))
  have i9 := (ap0 (φ := φIx) (f := eLst (aa0 (eC (.int 10)) (aa0 (eC (.int 3)) (aa0 (eC (.int 1001)) aNil)))) (s := .lst [.int 10, .int 3, .int 1001]) rfl ((ap0 (φ := φMod) (g := eC (.int 3)) (t := .int 3) d9 rfl).trans (bv0 _ 3 (by decide)))).trans hv1
  refine Eq.trans (cr0 (aW0 ((ap0 (φ := φMod) d26 i9).trans (bv0 _ _ (by omega))))) ?_
  have d27 := iZ0 C ns (ε := [.sh (scrT ns), .sh (intT k), .sh (.lst (names.map .str)), .sh (.int gaps), .ow (.lst (bs.map .str)), x, .sh (.int (aA0 ns (26 + 10 * k) % hv)), .un]) (c := 27) (k := k) (i := 1) rfl rfl (by omega) (by decide)
  refine Eq.trans (cr0 (aW0 (ap0 (φ := φSub) (t := .int 3) ((ap0 (φ := φMod) (t := .int 7) d27 rfl).trans (bv0 _ _ (by decide))) rfl))) ?_
  have d28 := iZ0 C ns (ε := [.sh (scrT ns), .sh (intT k), .sh (.lst (names.map .str)), .sh (.int gaps), .sh (.lst (bs.map .str)), x, .sh (.int (aA0 ns (26 + 10 * k) % hv)), .sh (.int (aA0 ns (27 + 10 * k) % 7 - 3))]) (c := 28) (k := k) (i := 1) rfl rfl (by omega) (by decide)
  have hx : φIx (.lst (names.map .str)) (intT k) = some (.str names[k]) := db0 _ k _ (by rw [List.getElem?_map, List.getElem?_eq_getElem hk]; rfl)
  refine eV0 ?_
  refine dD0 (aw0 ((ap0 rfl rfl).trans hx) (aw0 rfl (aw0 rfl (aw0 ((ap0 (φ := φMod) d28 (ap0 (φ := φAdd) (s := .int gaps) (t := .int 1) rfl rfl)).trans (bv0 _ _ (by omega))) (aw0 rfl rfl))))) (show (5 : Nat) <= 1000000 by decide)
 ·have a := Int.emod_nonneg (aA0 ns (27 + 10 * k)) (show (7 : Int) ≠ 0 by decide)
  have b := Int.emod_lt_of_pos (aA0 ns (27 + 10 * k)) (show (0 : Int) < 7 by decide)
  show -3 <= aA0 ns (27 + 10 * k) % 7 - 3 /\ aA0 ns (27 + 10 * k) % 7 - 3 <= 3
  omega
 ·have a := Int.emod_nonneg (aA0 ns (26 + 10 * k)) (show hv ≠ 0 by omega)
  have b := Int.emod_lt_of_pos (aA0 ns (26 + 10 * k)) (show 0 < hv by omega)
  show 0 <= aA0 ns (26 + 10 * k) % hv /\ aA0 ns (26 + 10 * k) % hv <= 1000
  omega
 ·have a := Int.emod_nonneg (aA0 ns (28 + 10 * k)) (show gaps + 1 ≠ 0 by omega)
  have b := Int.emod_lt_of_pos (aA0 ns (28 + 10 * k)) (show 0 < gaps + 1 by omega)
  show 0 <= aA0 ns (28 + 10 * k) % (gaps + 1) /\ aA0 ns (28 + 10 * k) % (gaps + 1) <= 3
  omega
end
section
variable (C : Addr) (ns : List Int)
theorem nj0 {ws : List (Str × Int × Int)} {x : Str} (h : ∀ w ∈ ws, w.1 ≠ x) (a b : Int) : putT (ws.map fun x => (x.1, T.tup [.int x.2.1, .int x.2.2])) x (.tup [.int a, .int b]) = (ws ++ [(x, a, b)]).map fun x => (x.1, T.tup [.int x.2.1, .int x.2.2]) := by
 unfold putT
 rw [if_neg, List.map_append]
 ·rfl
 ·intro z
  obtain ⟨q, hq, e⟩ := List.any_eq_true.mp z
  obtain ⟨w, hw, rfl⟩ := List.mem_map.mp hq
  exact h w hw (of_decide_eq_true e)
theorem hN0 (names : List Str) (hn : names.length <= 5) (nd : names.Nodup) (b : Nat) (hb : b <= 3) :
  ∃ ws : List (Str × Int × Int), k7 C [scrT ns, .lst (names.map .str), intT b] = some (true, ar0 ws) /\ (ws.map (·.1)).Nodup /\ (∀ x ∈ ws, x.1 ∈ names) /\ (∀ x ∈ ws, 0 <= x.2.1 /\ x.2.1 <= x.2.2 /\ x.2.2 <= 3) /\ ws.length <= 5 := by
 have lp := bk0 (bd := am0 4) (body := sSeq (sSet 5 (eFn (j0 C) (aa0 (eVar 0) (aa0 (e2 φAdd (eC (.int 80)) (bVar 4)) aNil))))
  (sIf (qB (e2 φEq (e2 φMod (bVar 5) (eC (.int 5))) (eC (.int 1)))) (sSeq (sSet 6 (e2 φIx (eLst (aa0 (eC (.int 0)) (aa0 (eC (.int 0)) (aa0 (eC (.int 1)) (aa0 (eVar 2) aNil))))) (e2 φMod (e2 φDiv (bVar 5) (eC (.int 5))) (eC (.int 4)))))
  (BD.sDPut 3 (e2 φIx (bVar 1) (bVar 4)) (eTup (aa0 (eVar 6) (aa0 (ao0 dm0 (aa0 (eC (.int 3)) (aa0 (e2 φAdd (bVar 6) (e2 φMod (e2 φDiv (bVar 5) (eC (.int 20))) (e2 φAdd (bVar 2) (eC (.int 1))))) aNil))) aNil))))) sNx))
  (fun i ε => ∃ (ws : List (Str × Int × Int)) (x4 x5 x6 : Sl), ε = [.sh (scrT ns), .sh (.lst (names.map .str)), .sh (intT b), .ow (ar0 ws), x4, x5, x6] /\ (ws.map (·.1)).Nodup /\ (∀ x ∈ ws, ∃ j, j < i /\ names[j]? = some x.1) /\ (∀ x ∈ ws, 0 <= x.2.1 /\ x.2.1 <= x.2.2 /\ x.2.2 <= 3) /\ ws.length <= i)
  (bf0 0 names.length) 0 [.sh (scrT ns), .sh (.lst (names.map .str)), .sh (intT b), .ow (ar0 []), .un, .un, .un] ⟨[], .un, .un, .un, rfl, List.nodup_nil, (fun x hx => nomatch hx), (fun x hx => nomatch hx), Nat.le_refl _⟩ fun i t ε ht hI => by
   obtain ⟨hi, rfl⟩ := fn0 ht
   obtain ⟨ws, x4, x5, x6, rfl, h1, h2, h3, h4⟩ := hI
   rw [Nat.zero_add] at h2 h4 ⊢
   have s1 : e2 φAdd (eC (.int 80)) (bVar 4) [.sh (scrT ns), .sh (.lst (names.map .str)), .sh (intT b), .ow (ar0 ws), .sh (intT i), x5, x6] = some (intT (80 + i)) := by
    rw [ap0 (φ := φAdd) (s := .int 80) (t := intT i) rfl rfl]
    refine congrArg (fun z => some (T.int z)) ?_
    omega
   have s2 : eFn (j0 C) (aa0 (eVar 0) (aa0 (e2 φAdd (eC (.int 80)) (bVar 4)) aNil)) [.sh (scrT ns), .sh (.lst (names.map .str)), .sh (intT b), .ow (ar0 ws), .sh (intT i), x5, x6] = some (.int (aA0 ns (80 + i))) := bO0 rfl s1 (cF0 C ns _ (by omega))
   have s3 : e2 φMod (bVar 5) (eC (.int 5)) [.sh (scrT ns), .sh (.lst (names.map .str)), .sh (intT b), .ow (ar0 ws), .sh (intT i), .sh (.int (aA0 ns (80 + i))), x6] = some (.int (aA0 ns (80 + i) % 5)) := (ap0 (s := .int (aA0 ns (80 + i))) (t := .int 5) rfl rfl).trans (bv0 _ _ (by decide))
   have s4 := cq0 ((ap0 (φ := φEq) (g := eC (.int 1)) (t := .int 1) s3 rfl).trans (eqI _ _))
   by_cases hq : aA0 ns (80 + i) % 5 = 1
   ·obtain ⟨lv, l1, l2, l3⟩ := ff0 [0, 0, 1, (b : Int)] (aA0 ns (80 + i) / 5 % 4) 0 3 (Int.emod_nonneg _ (by decide)) (Int.emod_lt_of_pos _ (by decide)) (by
     intro x hx
     simp only [List.mem_cons, List.not_mem_nil, or_false] at hx
     omega)
    have m0 := Int.emod_nonneg (aA0 ns (80 + i) / 20) (show (b : Int) + 1 ≠ 0 by omega)
    have hx : φIx (.lst (names.map .str)) (intT i) = some (.str names[i]) := db0 _ i _ (by rw [List.getElem?_map, List.getElem?_eq_getElem hi]; rfl)
    have fresh : ∀ w ∈ ws, w.1 ≠ names[i] := fun w hw z => by
     obtain ⟨j, hj, e⟩ := h2 w hw
     rw [z] at e
     have := hG0 nd e (List.getElem?_eq_getElem hi)
     omega
    have d5 : e2 φMod (e2 φDiv (bVar 5) (eC (.int 5))) (eC (.int 4)) [.sh (scrT ns), .sh (.lst (names.map .str)), .sh (intT b), .ow (ar0 ws), .sh (intT i), .sh (.int (aA0 ns (80 + i))), x6] = some (.int (aA0 ns (80 + i) / 5 % 4)) := (ap0 (t := .int 4) ((ap0 (s := .int (aA0 ns (80 + i))) (t := .int 5) rfl rfl).trans (iv0 _ _ (by decide) (by decide))) rfl).trans (bv0 _ _ (by decide))
    have r6 := aW0 (i := 6) ((ap0 (φ := φIx) (f := eLst (aa0 (eC (.int 0)) (aa0 (eC (.int 0)) (aa0 (eC (.int 1)) (aa0 (eVar 2) aNil))))) (s := .lst [.int 0, .int 0, .int 1, intT b]) rfl d5).trans l1)
    have d20 : e2 φMod (e2 φDiv (bVar 5) (eC (.int 20))) (e2 φAdd (bVar 2) (eC (.int 1))) [.sh (scrT ns), .sh (.lst (names.map .str)), .sh (intT b), .ow (ar0 ws), .sh (intT i), .sh (.int (aA0 ns (80 + i))), .sh (.int lv)] = some (.int (aA0 ns (80 + i) / 20 % ((b : Int) + 1))) := (ap0 ((ap0 (s := .int (aA0 ns (80 + i))) (t := .int 20) rfl rfl).trans (iv0 _ _ (by decide) (by decide))) (ap0 (φ := φAdd) (s := intT b) (t := .int 1) rfl rfl)).trans (bv0 _ _ (by omega))
    have a6 := ap0 (φ := φAdd) (f := bVar 6) (s := .int lv) rfl d20
    have mn := fz0 (φ := dm0) (E := eC (.int 3)) (s := .int 3) rfl a6 rfl
    have tp := dD0 (aw0 (f := eVar 6) (t := .int lv) rfl (aw0 (g := aNil) (ts := []) mn rfl)) (show (2 : Nat) <= 1000000 by decide)
    have pt := lg0 (i := 3) (fk := e2 φIx (bVar 1) (bVar 4)) (k := names[i]) (kts := ws.map fun x => (x.1, T.tup [.int x.2.1, .int x.2.2])) rfl (by rw [List.length_map]; unfold big; omega) tp ((ap0 (s := .lst (names.map .str)) (t := intT i) rfl rfl).trans hx)
    rw [nj0 fresh] at pt
    refine ⟨_, _, rfl, .inl (Eq.trans (aC0 (aW0 s2)) (Eq.trans (ex0 s4) (Eq.trans (if_pos (decide_eq_true hq)) (Eq.trans (aC0 r6) pt)))), ?_⟩
    refine ⟨ws ++ [(names[i], lv, _)], _, _, _, rfl, ?_, fun x hx' => ?_, fun x hx' => ?_, by rw [List.length_append]; simp; omega⟩
    ·rw [List.map_append]
     refine kY0 h1 fun z => ?_
     obtain ⟨w, hw, e⟩ := List.mem_map.mp z
     exact fresh w hw e
    ·rcases List.mem_append.mp hx' with h | h
     ·obtain ⟨j, hj, e⟩ := h2 x h
      exact ⟨j, by omega, e⟩
     ·rw [List.mem_singleton.mp h]
      exact ⟨i, by omega, List.getElem?_eq_getElem hi⟩
    ·rcases List.mem_append.mp hx' with h | h
     ·exact h3 x h
     ·rw [List.mem_singleton.mp h]
      show 0 <= lv /\ lv <= (if lv + aA0 ns (80 + i) / 20 % ((b : Int) + 1) < 3 then lv + aA0 ns (80 + i) / 20 % ((b : Int) + 1) else 3) /\ (if lv + aA0 ns (80 + i) / 20 % ((b : Int) + 1) < 3 then lv + aA0 ns (80 + i) / 20 % ((b : Int) + 1) else 3) <= (3 : Int)
      split
      ·omega
      ·omega
   ·refine ⟨_, _, rfl, .inl (Eq.trans (aC0 (aW0 s2)) (Eq.trans (ex0 s4) (if_neg (by simp [hq])))), ?_⟩
    exact ⟨ws, _, _, _, rfl, h1, (fun x hx => let ⟨j, hj, e⟩ := h2 x hx; ⟨j, by omega, e⟩), h3, by omega⟩
 obtain ⟨ε', hl, ws, x4, x5, x6, rfl, h1, h2, h3, h4⟩ := lp
 rw [bi0] at h4
 refine ⟨ws, ?_, h1, fun x hx => ?_, h3, by omega⟩
 ·unfold k7 Xd0
  refine Eq.trans (aF0 (ε := [.sh (scrT ns), .sh (.lst (names.map .str)), .sh (intT b), .un, .un, .un, .un]) rfl rfl) ?_
  refine Eq.trans (cr0 (gy0 (t := .dct []) rfl rfl)) ?_
  refine Eq.trans (cr0 (ck0 (cA0 (n := names.length) (aw0 (bw0 rfl (by show some (T.int _) = _; rw [List.length_map])) rfl) (by omega)) hl)) ?_
  rfl
 ·obtain ⟨j, _, e⟩ := h2 x hx
  exact List.mem_of_getElem? e
theorem iu0 (ts : List T) (lo hi : Option Int) : (cutT ts lo hi).length <= ts.length := by
 unfold cutT
 rw [List.length_take, List.length_drop]
 omega
theorem kQ0 {f : En -> Option T} {lo hi : En -> Option (Option Int)} {ε : En} {ts : List T} {l h : Option Int} (hf : f ε = some (.lst ts)) (h1 : lo ε = some l) (h2 : hi ε = some h) : eSlL f lo hi ε = some (.lst (cutT ts l h)) := by
 unfold eSlL
 rw [hf]
 show (lo ε).bind _ = _
 rw [h1, Option.bind_some, h2]
 rfl
theorem eZ0 {f : En -> Option T} {ε : En} {i : Int} (h : f ε = some (.int i)) : bd0 (some f) ε = some (some i) := by
 unfold bd0
 simp only [h]
theorem kB0 {ε : En} {t m : Int} {ts : List T} (hl : ts.length <= 1000) (h7 : bVar 7 ε = some (.lst ts)) (h6 : bVar 6 ε = some (.int t)) (h4 : bVar 4 ε = some (.int m)) :
  eSlL (e2 fP0 (eSlL (bVar 7) (bd0 (some (bVar 6))) (bd0 none)) (eSlL (bVar 7) (bd0 none) (bd0 (some (bVar 6))))) (bd0 none) (bd0 (some (bVar 4))) ε = some (.lst (cutT (cutT ts (some t) none ++ cutT ts none (some t)) none (some m))) := by
 have c1 := kQ0 (lo := bd0 (some (bVar 6))) (hi := bd0 none) h7 (eZ0 h6) rfl
 have c2 := kQ0 (lo := bd0 none) (hi := bd0 (some (bVar 6))) h7 rfl (eZ0 h6)
 have c3 : fP0 (.lst (cutT ts (some t) none)) (.lst (cutT ts none (some t))) = some (.lst (cutT ts (some t) none ++ cutT ts none (some t))) := by
  show (if _ then _ else _) = _
  rw [if_pos]
  have a := iu0 ts (some t) none
  have b := iu0 ts none (some t)
  unfold big
  omega
 exact kQ0 ((ap0 c1 c2).trans c3) rfl (eZ0 h4)
theorem hT0 (t m : Int) (ht : 0 <= t /\ t < 5) (hm : 1 <= m /\ m <= 4) : ∃ names : List Str, (cutT (cutT ((["bean", "rye", "kale", "oat", "pea"] : List Str).map T.str) (some t) none ++ cutT ((["bean", "rye", "kale", "oat", "pea"] : List Str).map T.str) none (some t)) none (some m)) = names.map T.str /\ (names.length : Int) = m /\ names.Nodup /\ ∀ x ∈ names, x ≠ "" := by
 have h1 : t = 0 \/ t = 1 \/ t = 2 \/ t = 3 \/ t = 4 := by omega
 have h2 : m = 1 \/ m = 2 \/ m = 3 \/ m = 4 := by omega
 rcases h1 with rfl | rfl | rfl | rfl | rfl <;> rcases h2 with rfl | rfl | rfl | rfl
 ·exact ⟨["bean"], rfl, rfl, by decide +kernel, by decide +kernel⟩
 ·exact ⟨["bean", "rye"], rfl, rfl, by decide +kernel, by decide +kernel⟩
 ·exact ⟨["bean", "rye", "kale"], rfl, rfl, by decide +kernel, by decide +kernel⟩
 ·exact ⟨["bean", "rye", "kale", "oat"], rfl, rfl, by decide +kernel, by decide +kernel⟩
 ·exact ⟨["rye"], rfl, rfl, by decide +kernel, by decide +kernel⟩
 ·exact ⟨["rye", "kale"], rfl, rfl, by decide +kernel, by decide +kernel⟩
 ·exact ⟨["rye", "kale", "oat"], rfl, rfl, by decide +kernel, by decide +kernel⟩
 ·exact ⟨["rye", "kale", "oat", "pea"], rfl, rfl, by decide +kernel, by decide +kernel⟩
 ·exact ⟨["kale"], rfl, rfl, by decide +kernel, by decide +kernel⟩
 ·exact ⟨["kale", "oat"], rfl, rfl, by decide +kernel, by decide +kernel⟩
 ·exact ⟨["kale", "oat", "pea"], rfl, rfl, by decide +kernel, by decide +kernel⟩
 ·exact ⟨["kale", "oat", "pea", "bean"], rfl, rfl, by decide +kernel, by decide +kernel⟩
 ·exact ⟨["oat"], rfl, rfl, by decide +kernel, by decide +kernel⟩
 ·exact ⟨["oat", "pea"], rfl, rfl, by decide +kernel, by decide +kernel⟩
 ·exact ⟨["oat", "pea", "bean"], rfl, rfl, by decide +kernel, by decide +kernel⟩
 ·exact ⟨["oat", "pea", "bean", "rye"], rfl, rfl, by decide +kernel, by decide +kernel⟩
 ·exact ⟨["pea"], rfl, rfl, by decide +kernel, by decide +kernel⟩
 ·exact ⟨["pea", "bean"], rfl, rfl, by decide +kernel, by decide +kernel⟩
 ·exact ⟨["pea", "bean", "rye"], rfl, rfl, by decide +kernel, by decide +kernel⟩
 ·exact ⟨["pea", "bean", "rye", "kale"], rfl, rfl, by decide +kernel, by decide +kernel⟩
theorem gj0 (b : Nat) (hb : 1 <= b /\ b <= 3) : ∃ p : Plot, Z7 C [scrT ns, intT b] = some (false, aB0 p) /\ Bound p /\ p.soils.length = b := by
 have m0 := Int.emod_nonneg (aA0 ns 1) (show (8 : Int) ≠ 0 by decide)
 have m1 := Int.emod_lt_of_pos (aA0 ns 1) (show (0 : Int) < 8 by decide)
 obtain ⟨top, t1, t2, t3⟩ := ff0 [1, 2, 3, 3, 2, 5, 4, 1] (aA0 ns 1 % 8) 1 5 m0 m1 (by decide)
 obtain ⟨many, n1, n2, n3⟩ := ff0 [4, 3, 4, 3, 2, 2, 2, 3] (aA0 ns 1 % 8) 1 4 m0 m1 (by decide)
 obtain ⟨gaps, g1, g2, g3⟩ := ff0 [1, 2, 2, 1, 3, 2, 3, 3] (aA0 ns 1 % 8) 0 3 m0 m1 (by decide)
 have u0 := Int.emod_nonneg (aA0 ns 3) (show (5 : Int) ≠ 0 by decide)
 have u1 := Int.emod_lt_of_pos (aA0 ns 3) (show (0 : Int) < 5 by decide)
 have v0 := Int.emod_nonneg (aA0 ns 2) (show (2 : Int) ≠ 0 by decide)
 have v1 := Int.emod_lt_of_pos (aA0 ns 2) (show (0 : Int) < 2 by decide)
 have w0 := Int.emod_nonneg (aA0 ns 4) (show (2 : Int) ≠ 0 by decide)
 have w1 := Int.emod_lt_of_pos (aA0 ns 4) (show (0 : Int) < 2 by decide)
 have dr : ∀ (k : Nat) (hk : k <= 1000) (z : Int) (hz : z = (k : Int)) (ε : En) (h0 : eVar 0 ε = some (scrT ns)), eFn (j0 C) (aa0 (eVar 0) (aa0 (eC (.int z)) aNil)) ε = some (.int (aA0 ns k)) := fun k hk z hz ε h0 => by
  subst hz
  exact bO0 h0 rfl (cF0 C ns k hk)
 -- the sizes, with one bed or more
 have sz : ∃ top' many' gaps' : Int, (1 <= top' /\ top' <= 5) /\ (1 <= many' /\ many' <= 4) /\ (0 <= gaps' /\ gaps' <= 3) /\ sIf (qB (e2 φGt (bVar 1) (eC (.int 1)))) (sSeq (sSet 3 (eC (.int 1)))
  (sSeq (sSet 4 (e2 φAdd (eC (.int 1)) (e2 φMod (eFn (j0 C) (aa0 (eVar 0) (aa0 (eC (.int 2)) aNil))) (eC (.int 2)))))
  (sSet 5 (e2 φMod (eFn (j0 C) (aa0 (eVar 0) (aa0 (eC (.int 4)) aNil))) (eC (.int 2)))))) sNx [.sh (scrT ns), .sh (intT b), .sh (.int (aA0 ns 1 % 8)), .sh (.int top), .sh (.int many), .sh (.int gaps), .un, .un, .un, .un] =
   some (.nx [.sh (scrT ns), .sh (intT b), .sh (.int (aA0 ns 1 % 8)), .sh (.int top'), .sh (.int many'), .sh (.int gaps'), .un, .un, .un, .un]) := by
  have q : qB (e2 φGt (bVar 1) (eC (.int 1))) [.sh (scrT ns), .sh (intT b), .sh (.int (aA0 ns 1 % 8)), .sh (.int top), .sh (.int many), .sh (.int gaps), .un, .un, .un, .un] = some (decide ((1 : Int) < (b : Int))) := rfl
  by_cases h : (1 : Int) < (b : Int)
  ·refine ⟨1, 1 + aA0 ns 2 % 2, aA0 ns 4 % 2, by omega, by omega, by omega, ?_⟩
   refine Eq.trans (ex0 q) (Eq.trans (if_pos (decide_eq_true h)) ?_)
   refine Eq.trans (aC0 (aW0 (t := .int 1) rfl)) ?_
   refine Eq.trans (aC0 (aW0 (ap0 (φ := φAdd) (s := .int 1) rfl ((ap0 (t := .int 2) (dr 2 (by decide) 2 rfl _ rfl) rfl).trans (bv0 _ _ (by decide)))))) ?_
   exact aW0 ((ap0 (t := .int 2) (dr 4 (by decide) 4 rfl _ rfl) rfl).trans (bv0 _ _ (by decide)))
  ·exact ⟨top, many, gaps, ⟨t2, t3⟩, ⟨n2, n3⟩, ⟨g2, g3⟩, Eq.trans (ex0 q) (if_neg (by simp [h]))⟩
 obtain ⟨top', many', gaps', tb, mb, gb, hsz⟩ := sz
 obtain ⟨names, nm1, nm2, nm3, nm4⟩ := hT0 (aA0 ns 3 % 5) many' ⟨u0, u1⟩ mb
 obtain ⟨ws, ws1, ws2, ws3, ws4, ws5⟩ := hN0 C ns names (by omega) nm3 b hb.2
 have hmn : many' = ((names.length : Nat) : Int) := nm2.symm
 -- the crops
 obtain ⟨cs, cs1, cs2, cs3⟩ := eX0 (n := 1) (it := aO0 (aa0 (bVar 4) aNil)) (bd := am0 0) (ε := [.sh (scrT ns), .sh (intT b), .sh (.int (aA0 ns 1 % 8)), .sh (.int top'), .sh (.int many'), .sh (.int gaps'), .sh (.int (aA0 ns 3 % 5)), .sh (.lst (names.map .str)), .un, .un])
  (f := eFn (Q4 C) (aa0 (eVar 1) (aa0 (eVar 0) (aa0 (eVar 8) (aa0 (eVar 6) aNil))))) (ts := bf0 0 names.length) aj0
  (fun t c => ∃ k : Nat, t = intT k /\ names[k]? = some c.name /\ (-3 <= c.change /\ c.change <= 3) /\ (0 <= c.harvest /\ c.harvest <= 1000) /\ (0 <= c.gap /\ c.gap <= 3) /\ (∀ b ∈ c.bars, b ∈ names) /\ c.bars.length <= 5)
  (cA0 (aw0 (by rw [hmn]; rfl) rfl) (by omega)) (by rw [bi0]; unfold big; omega) fun t ht => by
   obtain ⟨k, hk, rfl⟩ := ch0 ht
   obtain ⟨c, c1, c2⟩ := iy0 C ns k names (by omega) hk gaps' gb
   refine ⟨[.sh (intT k), .sh (scrT ns), .sh (intT b), .sh (.int (aA0 ns 1 % 8)), .sh (.int top'), .sh (.int many'), .sh (.int gaps'), .sh (.int (aA0 ns 3 % 5)), .sh (.lst (names.map .str)), .un, .un], c, rfl, ?_, k, rfl, c2⟩
   unfold eFn
   rw [aw0 (f := eVar 1) (t := scrT ns) rfl (aw0 (f := eVar 0) (t := intT k) rfl (aw0 (f := eVar 8) (t := .lst (names.map .str)) rfl (aw0 (f := eVar 6) (t := .int gaps') rfl rfl))), Option.bind_some, c1]
   rfl
 rw [bi0] at cs2
 have csn : cs.map (·.name) = names := by
  apply List.ext_getElem?
  intro i
  by_cases hi : i < names.length
  ·obtain ⟨c, q1, k, q2, q3, _⟩ := cs3 i _ (dk0 hi)
   have : i = k := by
    have := T.int.inj q2
    omega
   subst this
   rw [List.getElem?_map, q1, q3]
   rfl
  ·rw [List.getElem?_eq_none (by rw [List.length_map]; omega), List.getElem?_eq_none (by omega)]
 have csp : ∀ c ∈ cs, (-3 <= c.change /\ c.change <= 3) /\ (0 <= c.harvest /\ c.harvest <= 1000) /\ (0 <= c.gap /\ c.gap <= 3) /\ (∀ b ∈ c.bars, b ∈ names) /\ c.bars.length <= 5 := fun c hc => by
  obtain ⟨i, hi, e⟩ := List.mem_iff_getElem.mp hc
  obtain ⟨c', q1, k, q2, q3, q4⟩ := cs3 i _ (dk0 (by omega))
  rw [List.getElem?_eq_getElem hi, e] at q1
  cases q1
  exact q4
 -- the soils
 obtain ⟨ss, ss1, ss2, ss3⟩ := eX0 (n := 1) (it := aO0 (aa0 (bVar 1) aNil)) (bd := am0 0) (ε := [.sh (scrT ns), .sh (intT b), .sh (.int (aA0 ns 1 % 8)), .sh (.int top'), .sh (.int many'), .sh (.int gaps'), .sh (.int (aA0 ns 3 % 5)), .sh (.lst (names.map .str)), .sh (.lst (cs.map aj0)), .un])
  (f := e2 φMod (eFn (j0 C) (aa0 (eVar 1) (aa0 (e2 φAdd (eC (.int 5)) (bVar 0)) aNil))) (e2 φAdd (bVar 4) (eC (.int 1)))) (ts := bf0 0 b) T.int
  (fun _ x => 0 <= x /\ x <= top') (cA0 (aw0 rfl rfl) (by omega)) (by rw [bi0]; unfold big; omega) fun t ht => by
   obtain ⟨k, hk, rfl⟩ := ch0 ht
   have s1 : e2 φAdd (eC (.int 5)) (bVar 0) [.sh (intT k), .sh (scrT ns), .sh (intT b), .sh (.int (aA0 ns 1 % 8)), .sh (.int top'), .sh (.int many'), .sh (.int gaps'), .sh (.int (aA0 ns 3 % 5)), .sh (.lst (names.map .str)), .sh (.lst (cs.map aj0)), .un] = some (intT (5 + k)) := by
    rw [ap0 (φ := φAdd) (s := .int 5) (t := intT k) rfl rfl]
    refine congrArg (fun z => some (T.int z)) ?_
    omega
   have s2 : eFn (j0 C) (aa0 (eVar 1) (aa0 (e2 φAdd (eC (.int 5)) (bVar 0)) aNil)) [.sh (intT k), .sh (scrT ns), .sh (intT b), .sh (.int (aA0 ns 1 % 8)), .sh (.int top'), .sh (.int many'), .sh (.int gaps'), .sh (.int (aA0 ns 3 % 5)), .sh (.lst (names.map .str)), .sh (.lst (cs.map aj0)), .un] = some (.int (aA0 ns (5 + k))) := bO0 rfl s1 (cF0 C ns _ (by omega))
   have a := Int.emod_nonneg (aA0 ns (5 + k)) (show top' + 1 ≠ 0 by omega)
   have b := Int.emod_lt_of_pos (aA0 ns (5 + k)) (show 0 < top' + 1 by omega)
   refine ⟨_, aA0 ns (5 + k) % (top' + 1), rfl, (ap0 s2 (ap0 (φ := φAdd) (s := .int top') (t := .int 1) rfl rfl)).trans (bv0 _ _ (by omega)), a, by omega⟩
 rw [bi0] at ss2
 refine ⟨⟨ss, top', cs, ws⟩, ?_, ?_, ss2⟩
 ·unfold Z7 ze0
  refine Eq.trans (aF0 (ε := [.sh (scrT ns), .sh (intT b), .un, .un, .un, .un, .un, .un, .un, .un]) rfl rfl) ?_
  refine Eq.trans (cr0 (aW0 ((ap0 (t := .int 8) (dr 1 (by decide) 1 rfl _ rfl) rfl).trans (bv0 _ _ (by decide))))) ?_
  refine Eq.trans (cr0 (aW0 ((ap0 (s := .lst ([1, 2, 3, 3, 2, 5, 4, 1].map .int)) (t := .int (aA0 ns 1 % 8)) rfl rfl).trans t1))) ?_
  refine Eq.trans (cr0 (aW0 ((ap0 (s := .lst ([4, 3, 4, 3, 2, 2, 2, 3].map .int)) (t := .int (aA0 ns 1 % 8)) rfl rfl).trans n1))) ?_
  refine Eq.trans (cr0 (aW0 ((ap0 (s := .lst ([1, 2, 2, 1, 3, 2, 3, 3].map .int)) (t := .int (aA0 ns 1 % 8)) rfl rfl).trans g1))) ?_
  refine Eq.trans (cr0 hsz) ?_
  refine Eq.trans (cr0 (aW0 ((ap0 (t := .int 5) (dr 3 (by decide) 3 rfl _ rfl) rfl).trans (bv0 _ _ (by decide))))) ?_
  refine Eq.trans (cr0 (aW0 (t := .lst ((["bean", "rye", "kale", "oat", "pea"] : List Str).map T.str)) rfl)) ?_
  refine Eq.trans (cr0 (aW0 (t := .lst (names.map .str)) ?_)) ?_
  ·rw [<- nm1]
   exact kB0 (by decide) rfl rfl rfl
  refine Eq.trans (cr0 (aW0 cs1)) ?_
  refine Eq.trans (cr0 (aW0 ss1)) ?_
  refine eV0 ?_
  refine dD0 (aw0 rfl (aw0 rfl (aw0 rfl (aw0 ?_ rfl)))) (show (4 : Nat) <= 1000000 by decide)
  unfold eFnF
  rw [aw0 (f := eVar 0) (t := scrT ns) rfl (aw0 (f := eVar 7) (t := .lst (names.map .str)) rfl (aw0 (f := eVar 1) (t := intT b) rfl rfl)), Option.bind_some, ws1]
 ·exact { nd := by show (cs.map (·.name)).Nodup; rw [csn]; exact nm3
          bars := fun c hc x hx => by show x ∈ cs.map (·.name); rw [csn]; exact (csp c hc).2.2.2.1 x hx
          wants := fun x hx => by show x.1 ∈ cs.map (·.name); rw [csn]; exact ws3 x hx
          gaps := fun c hc => (csp c hc).2.2.1.1
          few := by show cs.length <= 5; omega
          keys := ws2
          beds := by show 1 <= ss.length /\ ss.length <= 3; omega
          top := tb
          soil := fun x hx => by
           obtain ⟨i, hi, e⟩ := List.mem_iff_getElem.mp hx
           have hi' : i < ss.length := hi
           obtain ⟨x', q1, q2⟩ := ss3 i _ (dk0 (by omega))
           have e' : ss[i] = x := e
           rw [List.getElem?_eq_getElem hi', e'] at q1
           cases q1
           exact q2
          some := by show 1 <= cs.length; omega
          text := fun c hc => nm4 _ (by rw [<- csn]; exact List.mem_map.mpr ⟨c, hc, rfl⟩)
          chg := fun c hc => (csp c hc).1
          har := fun c hc => (csp c hc).2.1
          gap := fun c hc => (csp c hc).2.2.1
          bar := fun c hc => by have := (csp c hc).2.2.2.2; omega
          want := ws4
          fewW := by show ws.length <= 1000; omega }
end
theorem aT0 {f : T -> T -> Option Bool} : ∀ (ts : List T), (∀ t ∈ ts, f t t = some true) -> eqLW f ts ts = some true
 | [], _ => rfl
 | t :: ts, h => by
  have h1 := h t (List.mem_cons_self ..)
  have h2 := aT0 ts fun u hu => h u (List.mem_cons_of_mem _ hu)
  unfold eqLW
  rw [h1, h2]
  rfl
theorem ci0 (n : Nat) (k : Int) : eqT (n + 1) (.int k) (.int k) = some true := by
 show some (eqV (.int k) (.int k)) = _
 show some (k == k) = _
 rw [beq_self_eq_true]
theorem jw0 (n : Nat) (r : List Nat) : eqT (n + 2) (rowT r) (rowT r) = some true := by
 show eqLW (eqT (n + 1)) (r.map intT) (r.map intT) = _
 refine aT0 _ fun t ht => ?_
 obtain ⟨k, _, rfl⟩ := List.mem_map.mp ht
 exact ci0 n k
theorem nY0 (n : Nat) (b : Int × List Nat) : eqT (n + 3) (bedT b) (bedT b) = some true := by
 show eqLW (eqT (n + 2)) [.int b.1, rowT b.2] [.int b.1, rowT b.2] = _
 refine aT0 _ fun t ht => ?_
 rcases List.mem_cons.mp ht with rfl | ht
 ·exact ci0 _ _
 ·rw [List.mem_singleton.mp ht]; exact jw0 n b.2
theorem fB0 (n : Nat) (s : Stt) : eqT (n + 4) (at0 s) (at0 s) = some true := by
 show eqLW (eqT (n + 3)) (s.map bedT) (s.map bedT) = _
 refine aT0 _ fun t ht => ?_
 obtain ⟨b, _, rfl⟩ := List.mem_map.mp ht
 exact nY0 n b
theorem gW0 (n : Nat) (rs : List (List Nat)) : eqT (n + 3) (.lst (rs.map rowT)) (.lst (rs.map rowT)) = some true := by
 show eqLW (eqT (n + 2)) (rs.map rowT) (rs.map rowT) = _
 refine aT0 _ fun t ht => ?_
 obtain ⟨r, _, rfl⟩ := List.mem_map.mp ht
 exact jw0 n r
theorem eQ0 {t : T} (hf : aQ0 t = false) (h : eqT 9 t t = some true) : φNe t t = some (.bl false) := by
 unfold φNe
 rw [hf, h]
 rfl
theorem neI (i j : Int) : φNe (.int i) (.int j) = some (.bl (!decide (i = j))) := by
 show some (T.bl (!decide (V.int i = V.int j))) = _
 by_cases h : i = j
 ·subst h; simp
 ·rw [decide_eq_false h, decide_eq_false fun z => h (V.int.inj z)]
theorem no0 {p : Plot} (hp : Fine p) {s : Stt} (hs : s.length <= 3) : (mayM p s).length <= 125 := by
 have h1 := (df0 p hp.few s.length s rfl).1
 have h2 : (mayM p s).length <= (co0 p s).length := List.length_filter_le ..
 have h3 : 5 ^ s.length <= 5 ^ 3 := Nat.pow_le_pow_right (by decide) hs
 have h4 : 5 ^ 3 = 125 := by decide
 omega
theorem bQ0 {C : Addr} {m : Str} {gs : List T -> Option (Bool × T)} {fo : En -> Option T} {g : En -> Option (List T)} {ε : En} {fs : List (Str × T)} {ts : List T} {t : T} (h0 : fo ε = some (.ins C fs)) (hl : fs.lookup m = none) (ha : g ε = some ts) (hg : gs (.ins C fs :: ts) = some (false, t)) : bn0 C m gs fo g ε = some t := by
 unfold bn0
 rw [h0]
 show (if C = C /\ fs.lookup m = none then (g ε).bind _ else none) = _
 rw [if_pos ⟨rfl, hl⟩, ha]
 show (gs (.ins C fs :: ts)).bind noD = _
 rw [hg]
 rfl
theorem dV0 {C : Addr} {m : Str} {gs : List T -> Option (Bool × T)} {fo : En -> Option T} {g : En -> Option (List T)} {ε : En} {fs : List (Str × T)} {ts : List T} {t : T} (h0 : fo ε = some (.ins C fs)) (hl : fs.lookup m = none) (ha : g ε = some ts) (hg : gs (.ins C fs :: ts) = some (true, t)) : cv0 C m gs fo g ε = some t := by
 unfold cv0
 rw [h0]
 show (if C = C /\ fs.lookup m = none then (g ε).bind _ else none) = _
 rw [if_pos ⟨rfl, hl⟩, ha]
 show (match gs (.ins C fs :: ts) with | some (true, t) => some t | _ => none) = _
 rw [hg]
theorem eI0 {p : Plot} {s : Stt} {row : List Nat} (hf : gi0 p s row = true) : row.length = s.length /\ ∀ x ∈ s.zip row, okM p x = true := by
 unfold gi0 at hf
 simp only [Bool.and_eq_true] at hf
 exact ⟨of_decide_eq_true hf.1.1, List.all_eq_true.mp hf.1.2⟩
section
variable (C : Addr) (p : Plot) (hp : Good p)
include hp
theorem im0 (s : Stt) (row : List Nat) (hs : s.length <= 3) (hst : ∀ b ∈ s, b.2.length <= 1000) (hf : gi0 p s row = true) :
  J6 C [garT C p, at0 s, rowT row] = some (false, at0 (ba0 p s row)) := by
 unfold J6 Qd0
 refine (aF0 (ε := [.sh (garT C p), .sh (at0 s), .sh (rowT row)]) rfl rfl).trans ?_
 have f := nS0 C p hp s row
 rw [hf] at f
 have q : qNot (qB (bn0 C "fits" (y4 C) (eVar 0) (aa0 (eVar 1) (aa0 (eVar 2) aNil)))) [.sh (garT C p), .sh (at0 s), .sh (rowT row)] = some false := by
  unfold qNot
  rw [cq0 (bQ0 (fs := aM0 p) (ts := [at0 s, rowT row]) rfl rfl rfl f)]
  rfl
 refine Eq.trans (cr0 (dh0 q)) ?_
 exact eV0 (bQ0 (fs := aM0 p) (ts := [at0 s, rowT row]) rfl rfl rfl (lY0 C p hp s row hs hst (eI0 hf).2))
end
theorem mF0 {p q : En -> Option Bool} {ε : En} (h1 : p ε = some false) (h2 : q ε = some false) : qOr p q ε = some false := by
 unfold qOr
 rw [h1, Option.bind_some, if_neg Bool.false_ne_true]
 exact h2
theorem lz0 (C : Addr) (i : Int) : y9 C [.int i] = some (false, .bl true) := rfl
theorem eR0 {gs : List T -> Option (Bool × T)} {E : En -> Option T} {ε : En} {s u : T} (hE : E ε = some s) (hp : gs [s] = some (false, u)) : eFn gs (aa0 E aNil) ε = some u := by
 unfold eFn aa0 aNil
 simp only [hE, Option.bind_some, hp, noD, Bool.false_and, Bool.false_eq_true, if_false]
theorem nx0 {gs : List T -> Option (Bool × T)} {E F G : En -> Option T} {ε : En} {s t v u : T} (hE : E ε = some s) (hF : F ε = some t) (hG : G ε = some v) (hp : gs [s, t, v] = some (false, u)) : eFn gs (aa0 E (aa0 F (aa0 G aNil))) ε = some u := by
 unfold eFn aa0 aNil
 simp only [hE, hF, hG, Option.bind_some, hp, noD, Bool.false_and, Bool.false_eq_true, if_false]
theorem gV0 {gs : List T -> Option (Bool × T)} {E F : En -> Option T} {ε : En} {s t u : T} (hE : E ε = some s) (hF : F ε = some t) (hp : gs [s, t] = some (true, u)) : eFnF gs (aa0 E (aa0 F aNil)) ε = some u := by
 unfold eFnF aa0 aNil
 simp only [hE, hF, Option.bind_some, hp]
theorem ly0 {gs : List T -> Option (Bool × T)} {E : En -> Option T} {ε : En} {s u : T} (hE : E ε = some s) (hp : gs [s] = some (true, u)) : eFnF gs (aa0 E aNil) ε = some u := by
 unfold eFnF aa0 aNil
 simp only [hE, Option.bind_some, hp]
theorem iR0 : ∀ (m : Int) (xs : List Int) (b : Int), (∀ x ∈ m :: xs, x <= b) -> maxI m xs <= b
 | m, [], b, h => h m (List.mem_cons_self ..)
 | m, x :: xs, b, h => by
  unfold maxI
  refine iR0 _ xs b fun y hy => ?_
  rcases List.mem_cons.mp hy with rfl | hy
  ·have h1 := h m (List.mem_cons_self ..)
   have h2 := h x (List.mem_cons_of_mem _ (List.mem_cons_self ..))
   split <;> assumption
  ·exact h y (List.mem_cons_of_mem _ (List.mem_cons_of_mem _ hy))
theorem em0 {p : Plot} {s : Stt} (hp : Bound p) (hs : Lives p s) : ∀ b ∈ s, b.2.length <= 1000 /\ ∀ c ∈ b.2, c < p.crops.length := fun b hb => by
 obtain ⟨h1, h2⟩ := hs.stood b hb
 refine ⟨?_, h2⟩
 have hd : (depth p).toNat <= 1000 := by
  have : depth p <= 1000 := by
   unfold depth
   split
   ·decide
   ·rename_i g gs e
    have hm : ∀ x ∈ g :: gs, x <= 3 := fun x hx => by
     rw [<- e] at hx
     obtain ⟨c, hc, rfl⟩ := List.mem_map.mp hx
     exact (hp.gap c hc).2
    have := iR0 g gs 3 hm
    split <;> omega
  omega
 omega
theorem oc0 {bd : T -> En -> Option En} {body : En -> Option Fl} {x : T} {ts : List T} {ε ε1 ε2 : En} (h1 : bd x ε = some ε1) (h2 : body ε1 = some (.nx ε2)) : cn0 bd body (x :: ts) ε = cn0 bd body ts ε2 := by
 conv => lhs; unfold cn0
 rw [h1, Option.bind_some, h2]
 rfl
section
variable (C : Addr) (ns : List Int) (p : Plot) (hp : Bound p)
include hp
theorem lF0 {ε : En} (c0 : Nat) (hc0 : c0 <= 200) (h0 : eVar 0 ε = some (scrT ns)) (h1 : bVar 1 ε = some (aB0 p)) :
  ∃ row : List Nat, aN0 1 (aO0 (aa0 (ao0 φLen (aa0 (e2 φIx (bVar 1) (eC (.int 0))) aNil)) aNil)) (am0 0) be0 (e2 φMod (eFn (j0 C) (aa0 (eVar 1) (aa0 (e2 φAdd (eC (.int (c0 : Int))) (bVar 0)) aNil))) (ao0 φLen (aa0 (e2 φIx (bVar 2) (eC (.int 2))) aNil))) ε = some (.lst (row.map intT)) /\ row.length = p.soils.length /\ ∀ c ∈ row, c < p.crops.length := by
 have nc := hp.some
 have nb := hp.beds
 have up0 : ∀ z : Sl, eVar 1 (z :: ε) = some (scrT ns) := fun z => h0
 have up1 : ∀ z : Sl, bVar 2 (z :: ε) = some (aB0 p) := fun z => h1
 obtain ⟨row, rw1, rw2, rw3⟩ := eX0 (n := 1) (it := aO0 (aa0 (ao0 φLen (aa0 (e2 φIx (bVar 1) (eC (.int 0))) aNil)) aNil)) (bd := am0 0) (ε := ε)
  (f := e2 φMod (eFn (j0 C) (aa0 (eVar 1) (aa0 (e2 φAdd (eC (.int (c0 : Int))) (bVar 0)) aNil))) (ao0 φLen (aa0 (e2 φIx (bVar 2) (eC (.int 2))) aNil)))
  (ts := bf0 0 p.soils.length) intT (fun _ x => x < p.crops.length) (cA0 (aw0 (bw0 ((ap0 (t := .int 0) h1 rfl).trans (az0 _ 0 _ rfl)) (by show some (T.int _) = _; rw [List.length_map])) rfl) (by omega)) (by rw [bi0]; unfold big; omega) fun t ht => by
   obtain ⟨j, hj, rfl⟩ := ch0 ht
   have s3 : e2 φAdd (eC (.int (c0 : Int))) (bVar 0) (.sh (intT j) :: ε) = some (intT (c0 + j)) := by
    rw [ap0 (φ := φAdd) (s := .int (c0 : Int)) (t := intT j) rfl rfl]
    refine congrArg (fun z => some (T.int z)) ?_
    omega
   have s4 : eFn (j0 C) (aa0 (eVar 1) (aa0 (e2 φAdd (eC (.int (c0 : Int))) (bVar 0)) aNil)) (.sh (intT j) :: ε) = some (.int (aA0 ns (c0 + j))) := bO0 (up0 _) s3 (cF0 C ns _ (by omega))
   have s5 : ao0 φLen (aa0 (e2 φIx (bVar 2) (eC (.int 2))) aNil) (.sh (intT j) :: ε) = some (intT p.crops.length) := bw0 ((ap0 (t := .int 2) (up1 _) rfl).trans (az0 _ 2 _ rfl)) (by show some (T.int _) = _; rw [List.length_map])
   have m0 := Int.emod_nonneg (aA0 ns (c0 + j)) (show (p.crops.length : Int) ≠ 0 by omega)
   have m1 := Int.emod_lt_of_pos (aA0 ns (c0 + j)) (show 0 < (p.crops.length : Int) by omega)
   refine ⟨.sh (intT j) :: ε, (aA0 ns (c0 + j) % (p.crops.length : Int)).toNat, rfl, ?_, by omega⟩
   refine ((ap0 s4 s5).trans (bv0 _ _ (by omega))).trans ?_
   show some (T.int _) = some (T.int _)
   rw [Int.toNat_of_nonneg m0]
 rw [bi0] at rw2
 refine ⟨row, rw1, rw2, fun c hc => ?_⟩
 obtain ⟨i, hi, e⟩ := List.mem_iff_getElem.mp hc
 obtain ⟨c', q1, q2⟩ := rw3 i _ (dk0 (by omega))
 rw [List.getElem?_eq_getElem hi, e] at q1
 cases q1
 exact q2
end
theorem iF0 (n : Nat) (x : Str) : eqT (n + 1) (.str x) (.str x) = some true := by
 show (if aQ0 (.str x) && aQ0 (.str x) then some (eqV (toV (.str x)) (toV (.str x))) else none) = some true
 rw [dC0 (t := .str x) rfl]
 rfl
theorem lW0 (n : Nat) (xs : List Str) : eqT (n + 2) (.lst (xs.map .str)) (.lst (xs.map .str)) = some true := aT0 _ fun t ht => by
 obtain ⟨x, _, rfl⟩ := List.mem_map.mp ht
 exact iF0 n x
theorem ls0 (n : Nat) (xs : List Int) : eqT (n + 2) (.lst (xs.map .int)) (.lst (xs.map .int)) = some true := aT0 _ fun t ht => by
 obtain ⟨x, _, rfl⟩ := List.mem_map.mp ht
 exact ci0 n x
theorem lh0 (n : Nat) (c : Crop) : eqT (n + 4) (aj0 c) (aj0 c) = some true := aT0 _ fun t ht => by
 simp only [List.mem_cons, List.not_mem_nil, or_false] at ht
 rcases ht with e | e | e | e | e <;> subst e
 ·exact iF0 _ _
 ·exact ci0 _ _
 ·exact ci0 _ _
 ·exact ci0 _ _
 ·exact lW0 _ _
theorem lT0 {p : Plot} (hp : Bound p) : φNeS (cR0 p) (cR0 p) = some (.bl false) := by
 unfold φNeS
 refine if_pos ⟨rfl, _, rfl, fun t ht => ?_⟩
 simp only [List.mem_cons, List.not_mem_nil, or_false] at ht
 rcases ht with e | e | e | e <;> subst e
 ·exact .inl (ls0 5 _)
 ·exact .inl (ci0 6 _)
 ·refine .inl (aT0 _ fun t ht => ?_)
  obtain ⟨c, _, rfl⟩ := List.mem_map.mp ht
  exact lh0 2 c
 ·refine .inr ⟨_, rfl, ?_, fun t ht => ?_⟩
  ·rw [List.map_map]
   exact hp.keys
  ·rw [List.map_map] at ht
   obtain ⟨x, _, rfl⟩ := List.mem_map.mp ht
   refine aT0 _ fun t ht => ?_
   simp only [List.mem_cons, List.not_mem_nil, or_false] at ht
   rcases ht with e | e <;> subst e
   ·exact ci0 5 _
   ·exact ci0 5 _
theorem nU0 (xs : List Int) : LFs (xs.map .int) := .of fun t ht => by
 obtain ⟨x, _, rfl⟩ := List.mem_map.mp ht
 exact .int x
theorem om0 (r : List Nat) : LF (rowT r) := .tup (.of fun t ht => by
 obtain ⟨x, _, rfl⟩ := List.mem_map.mp ht
 exact .int x)
theorem pc0 (C : Addr) (p : Plot) : LF (garT C p) := by
 have f : ∀ g : Crop -> Int, LFs (p.crops.map fun c => .int (g c)) := fun g => .of fun t ht => by
  obtain ⟨x, _, rfl⟩ := List.mem_map.mp ht
  exact .int _
 refine .ins (.cons (.tup (nU0 _)) (.cons (.int _) (.cons (.tup (f _)) (.cons (.tup (f _)) (.cons (.tup (f _)) (.cons (.tup (.of fun t ht => ?_)) (.cons (.tup (.of fun t ht => ?_)) (.cons (.int _) .nil))))))))
 ·obtain ⟨x, _, rfl⟩ := List.mem_map.mp ht
  exact om0 _
 ·obtain ⟨x, _, rfl⟩ := List.mem_map.mp ht
  exact .tup (.cons (.int _) (.cons (.int _) (.cons (.int _) .nil)))
theorem eB0 (rs : List (List Nat)) : (rs.map rowT).all cM0 = true := List.all_eq_true.mpr fun t ht => by
 obtain ⟨r, _, rfl⟩ := List.mem_map.mp ht
 exact List.all_eq_true.mpr fun u hu => by
  obtain ⟨x, _, rfl⟩ := List.mem_map.mp hu
  rfl
theorem mp0 {f : En -> Option T} {ε : En} {t : T} (h : f ε = some t) (hp : cM0 t = true) : eP f ε = some t := by
 unfold eP
 rw [h, Option.bind_some, if_pos hp]
theorem jT0 {f : En -> Option T} {ε : En} {t : T} (h : f ε = some t) (hp : okQ t = true) : eQ f ε = some t := by
 unfold eQ
 rw [h, Option.bind_some, if_pos hp]
theorem mN0 (p : Plot) (hf : p.crops.length <= 5) : cY0 dx0 cH0 X4 cO0 cP0 [aB0 p] = some (cR0 p) := by
 have a0 : φIx (aB0 p) (.int 0) = some (.lst (p.soils.map .int)) := az0 _ 0 _ rfl
 have a1 : φIx (aB0 p) (.int 1) = some (.int p.top) := az0 _ 1 _ rfl
 have a2 : φIx (aB0 p) (.int 2) = some (.lst (p.crops.map aj0)) := az0 _ 2 _ rfl
 have a3 : φIx (aB0 p) (.int 3) = some (ar0 p.wants) := az0 _ 3 _ rfl
 have hi : dx0 [.sh (aB0 p), .un] = some (p.crops.map aj0) := by
  unfold dx0
  simp_arith! [a2]
 have e := aR0 (n := 1) (bd := am0 0) (f := cH0) (G := id) hi (by rw [List.length_map]; unfold big; omega) fun t ht => by
  obtain ⟨c, hc, rfl⟩ := List.mem_map.mp ht
  have b4 : φIx (aj0 c) (.int 4) = some (.lst (c.bars.map .str)) := az0 _ 4 _ rfl
  have c1 : eP (eSlT (bVar 0) (bd0 none) (bd0 (some (eC (.int 4))))) [.sh (aj0 c), .sh (aB0 p), .un] = some (.tup [.str c.name, .int c.change, .int c.harvest, .int c.gap]) := mp0 (by rfl) rfl
  have c2 : eQ (ao0 dq0 (aa0 (e2 φIx (bVar 0) (eC (.int 4))) aNil)) [.sh (aj0 c), .sh (aB0 p), .un] = some (.lst (c.bars.map .str)) := jT0 (bw0 ((ap0 (t := .int 4) rfl rfl).trans b4) rfl) (List.all_eq_true.mpr fun u hu => by
   obtain ⟨x, _, rfl⟩ := List.mem_map.mp hu
   rfl)
  refine ⟨[.sh (aj0 c), .sh (aB0 p), .un], rfl, ?_⟩
  unfold cH0
  have c3 : eTup (aa0 (eQ (ao0 dq0 (aa0 (e2 φIx (bVar 0) (eC (.int 4))) aNil))) aNil) [.sh (aj0 c), .sh (aB0 p), .un] = some (.tup [.lst (c.bars.map .str)]) := dD0 (ts := [.lst (c.bars.map .str)]) (aw0 c2 rfl) (show (1 : Nat) <= big by decide)
  rw [ap0 c1 c3]
  rfl
 rw [List.map_id] at e
 have f0 : X4 [.sh (aB0 p), .sh (.lst (p.crops.map aj0))] = some (.lst (p.soils.map .int)) := jT0 (bw0 ((ap0 (t := .int 0) rfl rfl).trans a0) rfl) (List.all_eq_true.mpr fun u hu => by
  obtain ⟨x, _, rfl⟩ := List.mem_map.mp hu
  rfl)
 have f1 : cO0 [.sh (aB0 p), .sh (.lst (p.crops.map aj0))] = some (.int p.top) := mp0 ((ap0 (t := .int 1) rfl rfl).trans a1) rfl
 have f3 : cP0 [.sh (aB0 p), .sh (.lst (p.crops.map aj0))] = some (ar0 p.wants) := jT0 (bw0 ((ap0 (t := .int 3) rfl rfl).trans a3) rfl) (List.all_eq_true.mpr fun u hu => by
  obtain ⟨x, _, rfl⟩ := List.mem_map.mp hu
  rfl)
 unfold cY0
 simp only [e, f0, f1, f3, Option.bind_some]
 rfl
section
variable (C : Addr) (ns : List Int) (p : Plot) (hp : Bound p)
include hp
theorem nq0 (v0 v1 v3 v4 : V) (due : T) (x2 x5 x6 x7 x8 x9 x10 : Sl) (r : List Nat) (hr : r ∈ mayM p (aG0 p)) : ∃ y, Qb0 C [.fix v0 (scrT ns), .fix v1 (aB0 p), x2, .fix v3 (garT C p), .fix v4 due, x5, x6, x7, x8, .sh (rowT r), x10] = some (.nx [.fix v0 (scrT ns), .fix v1 (aB0 p), x2, .fix v3 (garT C p), .fix v4 due, x5, x6, x7, x8, .sh (rowT r), y]) := by
 have nb := hp.beds
 have ls : Lives p (aG0 p) := dT0 nb.2
 have hl := em0 hp ls
 have h3 : (aG0 p).length <= 3 := by rw [ls.len]; exact ls.few
 have hf := may_mem.mp hr
 have lr := (eI0 hf).1
 have cr : ∀ c ∈ r, c < p.crops.length := fun c hc => by
  obtain ⟨i, hi, e⟩ := List.mem_iff_getElem.mp hc
  have hz : ((aG0 p)[i]'(by omega), r[i]) ∈ (aG0 p).zip r := by
   rw [List.mem_iff_getElem]
   exact ⟨i, by simp; omega, by simp⟩
  have := (eI0 hf).2 _ hz
  unfold okM at this
  simp only [Bool.and_eq_true, decide_eq_true_eq] at this
  rw [e] at this
  first | exact this.1 | exact this.1.1
 have lb : Lives p (ba0 p (aG0 p) r) := fk0 ls lr cr
 have hlb := em0 hp lb
 have h3b : (ba0 p (aG0 p) r).length <= 3 := by rw [lb.len]; exact lb.few
 refine ⟨.sh (at0 (ba0 p (aG0 p) r)), ?_⟩
 unfold Qb0
 refine Eq.trans (aC0 (aW0 (nx0 rfl (eR0 rfl (cS0 C p (by omega))) rfl (fO0 C p hp.toGood (aG0 p) r h3 (fun b hb => (hl b hb).1) lr cr)))) ?_
 refine dh0 (mF0 (cq0 ((ap0 (s := at0 (ba0 p (aG0 p) r)) (t := at0 (ba0 p (aG0 p) r)) (bQ0 (fs := aM0 p) (ts := [at0 (aG0 p), rowT r]) rfl rfl (aw0 (bQ0 (fs := aM0 p) (ts := []) rfl rfl rfl (cW0 C p (by omega))) rfl) (im0 C p hp.toGood (aG0 p) r h3 (fun b hb => (hl b hb).1) hf)) rfl).trans (eQ0 rfl (fB0 5 _)))) ?_)
 exact cq0 ((ap0 (dV0 (fs := aM0 p) (ts := [at0 (ba0 p (aG0 p) r)]) rfl rfl rfl (kP0 C p hp.toGood _ h3b)) (gV0 rfl rfl (fC0 C p hp.toGood _ h3b hlb))).trans (eQ0 rfl (gW0 6 _)))
theorem gM0 (v0 v1 v3 v4 : V) (due : T) (x2 x5 x6 x7 x8 : Sl) : ∀ (rs : List (List Nat)) (x9 x10 : Sl), (∀ r ∈ rs, r ∈ mayM p (aG0 p)) -> ∃ ε', cn0 (am0 9) (Qb0 C) (rs.map rowT) [.fix v0 (scrT ns), .fix v1 (aB0 p), x2, .fix v3 (garT C p), .fix v4 due, x5, x6, x7, x8, x9, x10] = some (.nx ε')
 | [], x9, x10, _ => ⟨_, rfl⟩
 | r :: rs, x9, x10, h => by
  obtain ⟨y, e⟩ := nq0 C ns p hp v0 v1 v3 v4 due x2 x5 x6 x7 x8 x9 x10 r (h r (.head _))
  obtain ⟨ε', e2⟩ := gM0 v0 v1 v3 v4 due x2 x5 x6 x7 x8 rs (.sh (rowT r)) y fun q hq => h q (.tail _ hq)
  refine ⟨ε', ?_⟩
  rw [List.map_cons]
  exact (oc0 rfl e).trans e2
end
open Classical in
noncomputable def lawT : List T -> Option (Bool × T) := fun ts => if ∃ ns, ts = [scrT ns] then some (false, .bl true) else none
theorem oh0 (ns : List Int) : lawT [scrT ns] = some (false, .bl true) := by
 unfold lawT
 exact if_pos ⟨ns, rfl⟩
theorem hY0 (C : Addr) (ts : List T) (r : Bool × T) (h : lawT ts = some r) : r = (false, .bl true) /\ Law1 (jh0 C) (mu0 C) (kh0 C) (jL0 C) (ku0 C) (jJ0 C) (jF0 C) (iq0 C) (kU0 C) (kM0 C) (cY0 dx0 cH0 X4 cO0 cP0) (kA0 C) (jN0 C) (aN0 1 (gH0 C) (am0 0) be0 (gr0 C)) ts := by
 unfold lawT at h
 split at h
 rotate_left
 ·cases h
 rename_i hx
 obtain ⟨ns, rfl⟩ := hx
 cases h
 refine ⟨rfl, ?_⟩
 obtain ⟨b, hb, eb⟩ := jM0 C ns
 obtain ⟨p, ep, hp, hpl⟩ := gj0 C ns b hb
 have nb := hp.beds
 have nf := hp.few
 have ls : Lives p (aG0 p) := dT0 nb.2
 have hl := em0 hp ls
 have h3 : (aG0 p).length <= 3 := by rw [ls.len]; exact ls.few
 have few := no0 hp.toFine h3
 have a0 : φIx (cR0 p) (.int 0) = some (.lst (p.soils.map .int)) := db0 _ 0 _ rfl
 have a1 : φIx (cR0 p) (.int 1) = some (.int p.top) := db0 _ 1 _ rfl
 have a2 : φIx (cR0 p) (.int 2) = some (.lst (p.crops.map aj0)) := db0 _ 2 _ rfl
 have a3 : φIx (cR0 p) (.int 3) = some (ar0 p.wants) := db0 _ 3 _ rfl
 refine ⟨scrT ns, aB0 p, p.soils.map .int, .int p.top, p.crops.map aj0, p.wants.map (fun (x : Str × Int × Int) => ((x.1, T.tup [T.int x.2.1, T.int x.2.2]) : Str × T)), garT C p, (mayM p (aG0 p)).map rowT, (mayM p (aG0 p)).map rowT, p.names.map .str, rfl, ?_, mN0 p nf, ?_, ?_, pc0 C p, eB0 _, eB0 _, ?_, ?_, ?_, ?_, ?_, ?_, ?_⟩
 ·exact aW0 (bO0 rfl (bO0 rfl rfl eb) ep)
 ·rw [List.length_map]; omega
 ·intro t ht
  obtain ⟨c, hc, rfl⟩ := List.mem_map.mp ht
  exact ⟨_, _, _, _, c.bars, rfl, hp.bar c hc⟩
 ·rw [List.length_map]; unfold big; omega
 ·rw [List.length_map, List.length_map]; omega
 ·intro v0 v1 v2
  refine aW0 ?_
  unfold jB0
  rw [aw0 ((ap0 (s := cR0 p) rfl rfl).trans a0) (aw0 ((ap0 (s := cR0 p) rfl rfl).trans a1) (aw0 ((ap0 (s := cR0 p) rfl rfl).trans a2) (aw0 ((ap0 (s := cR0 p) rfl rfl).trans a3) rfl))), Option.bind_some, mM0 C p hp]
  rfl
 ·intro v0 v1 v2 v3
  refine ⟨dh0 (cq0 ((ap0 (s := cR0 p) (t := cR0 p) rfl (ly0 rfl (kw0 C p nf))).trans (lT0 hp))), ?_, ?_⟩
  ·exact gV0 rfl (eR0 rfl (cS0 C p (by omega))) (fC0 C p hp.toGood _ h3 hl)
  ·exact dV0 (fs := aM0 p) (ts := [at0 (aG0 p)]) rfl rfl (aw0 (bQ0 (fs := aM0 p) (ts := []) rfl rfl rfl (cW0 C p (by omega))) rfl) (kP0 C p hp.toGood _ h3)
 ·intro v0 v1 v2 v3 v4
  have b2 : φIx (aB0 p) (.int 2) = some (.lst (p.crops.map aj0)) := az0 _ 2 _ rfl
  have hi : gH0 C (fixO (w3 v0 v1 v2 v3 v4 (scrT ns) (aB0 p) (cR0 p) (garT C p) (.lst [.lst ((mayM p (aG0 p)).map rowT), .lst ((mayM p (aG0 p)).map rowT)]))) = some (p.crops.map aj0) := by
   unfold gH0 iLst
   rw [ap0 (s := aB0 p) (t := .int 2) rfl rfl, b2]
  have e := aR0 (n := 1) (bd := am0 0) (f := gr0 C) (G := gT0) hi (by rw [List.length_map]; unfold big; omega) fun t ht => by
   obtain ⟨c, hc, rfl⟩ := List.mem_map.mp ht
   have b1 : φIx (aj0 c) (.int 0) = some (.str c.name) := az0 _ 0 _ rfl
   refine ⟨_, rfl, ?_⟩
   exact (ap0 (s := aj0 c) (t := .int 0) rfl rfl).trans b1
  have e3 : (p.crops.map aj0).map gT0 = p.names.map .str := by
   rw [List.map_map, List.map_map]
   rfl
  rw [e3] at e
  exact e
 ·intro v0 v1 v3 v4
  obtain ⟨row, r1, r2, r3⟩ := lF0 C ns p hp (ε := fixO (w4 v0 v1 v3 v4 (scrT ns) (aB0 p) (garT C p) (.lst [.lst ((mayM p (aG0 p)).map rowT), .lst ((mayM p (aG0 p)).map rowT)]))) 95 (by decide) rfl rfl
  refine ⟨rowT row, .int (gb0 p row), ?_, ?_, ?_, ?_⟩
  ·refine dh0 (mF0 ?_ (cq0 ((ap0 (s := at0 (aG0 p)) (t := at0 (aG0 p)) (bQ0 (fs := aM0 p) (ts := []) rfl rfl rfl (cW0 C p (by omega))) (eR0 rfl (cS0 C p (by omega)))).trans (eQ0 rfl (fB0 5 _)))))
   unfold qNot
   rw [cq0 (b := true) ?_]
   ·rfl
   ·unfold eIs
    rw [bQ0 (fs := aM0 p) (ts := []) (t := at0 (aG0 p)) rfl rfl rfl (cW0 C p (by omega))]
    rfl
  ·exact aW0 (bw0 r1 (by rfl))
  ·exact aW0 (bQ0 (fs := aM0 p) (ts := [rowT row]) rfl rfl rfl (hU0 C p row r3 (by omega)))
  ·refine dh0 (mF0 ?_ (cq0 ((ap0 (s := .int (gb0 p row)) (t := .int (gb0 p row)) rfl (bO0 rfl rfl (oi0 C p row r3 (by omega)))).trans ((neI _ _).trans (by simp)))))
   unfold qNot
   rw [cq0 (eR0 (s := .int (gb0 p row)) rfl (lz0 C _))]
   rfl
 ·intro v0 v1 v3 v4
  have d0 : φIx (.lst [.lst ((mayM p (aG0 p)).map rowT), .lst ((mayM p (aG0 p)).map rowT ++ [.str "none"])]) (.int 0) = some (.lst ((mayM p (aG0 p)).map rowT)) := db0 _ 0 _ rfl
  obtain ⟨ε', e⟩ := gM0 C ns p hp v0 v1 v3 v4 (.lst [.lst ((mayM p (aG0 p)).map rowT), .lst ((mayM p (aG0 p)).map rowT ++ [.str "none"])]) .un .un .un .un .un (mayM p (aG0 p)) .un .un fun _ h => h
  refine ⟨fixO (w4 v0 v1 v3 v4 (scrT ns) (aB0 p) (garT C p) (.lst [.lst ((mayM p (aG0 p)).map rowT), .lst ((mayM p (aG0 p)).map rowT ++ [.str "none"])])), ε', ?_, ?_, rfl⟩
  ·exact dh0 (cq0 ((ap0 (dV0 (fs := aM0 p) (ts := [at0 (aG0 p)]) rfl rfl (aw0 (bQ0 (fs := aM0 p) (ts := []) rfl rfl rfl (cW0 C p (by omega))) rfl) (kP0 C p hp.toGood _ h3)) ((ap0 (t := .int 0) rfl rfl).trans d0)).trans (eQ0 rfl (gW0 6 _))))
  ·refine ck0 ?_ e
   unfold iLst
   rw [ap0 (s := .lst [.lst ((mayM p (aG0 p)).map rowT), .lst ((mayM p (aG0 p)).map rowT ++ [.str "none"])]) (t := .int 0) rfl rfl, d0]
end Bed1
namespace Bed1
open PySem PySem.Spec PyProof.Rows L2 L2.BD
def bI0 (K : PySem.W.Frag) (mg : Str -> Option Value) (x qual : Str) (st : Stmt) (ps : List Str) : Prop := ∃ f fd, Fun K x qual st f fd /\ mg x = some (.ref f) /\ PySem.W.keepIn K (.ref f) = true /\ Binds K fd ps []
def dW0 (K : PySem.W.Frag) (C : Addr) (x qual : Str) (st : Stmt) (ps : List Str) : Prop := ∃ f fd, Fun K x qual st f fd /\ Meth K C x f /\ Binds K fd ps []
def MakAt (K : PySem.W.Frag) (mg : Str -> Option Value) (C : Addr) (c qual : Str) (st : Stmt) (ps : List Str) : Prop := ∃ f fd, Fun K "__init__" qual st f fd /\ Mk K C f /\ mg c = some (.ref C) /\ Binds K fd ps []
structure Ats (K : PySem.W.Frag) (mg : Str -> Option Value) (C : Addr) : Prop where
 vn0 : bI0 K mg "is_within" "is_within" wa0 k5
 yn0 : bI0 K mg "check_within" "check_within" va0 Y1
 xn0 : bI0 K mg "check_name" "check_name" ya0 X2
 hn0 : bI0 K mg "check_beds" "check_beds" xa0 v5
 Zn0 : bI0 K mg "check_crop" "check_crop" ha0 Z5
 Qn0 : bI0 K mg "names_of" "names_of" V8 Q3
 Jn0 : bI0 K mg "check_crops" "check_crops" Za0 Q5
 Kn0 : bI0 K mg "check_wants" "check_wants" Qa0 J5
 Wn0 : bI0 K mg "numbers_of" "numbers_of" Y8 K5
 Vn0 : bI0 K mg "lengthened" "lengthened" X8 W5
 Yn0 : MakAt K mg C "Garden" "Garden.__init__" j2 V5
 Xn0 : dW0 K C "start" "Garden.start" z9 X5
 zo0 : dW0 K C "lets" "Garden.lets" Ja0 V3
 qo0 : dW0 K C "crops_for" "Garden.crops_for" q9 j6
 jo0 : dW0 K C "meets_wants" "Garden.meets_wants" Ka0 X3
 ko0 : dW0 K C "may" "Garden.may" j9 k6
 wo0 : dW0 K C "bed_behind" "Garden.bed_behind" Wa0 w6
 vo0 : dW0 K C "beds_behind" "Garden.beds_behind" w9 v6
 yo0 : dW0 K C "fits" "Garden.fits" Ya0 Z6
 xo0 : dW0 K C "behind" "Garden.behind" Xa0 Q6
 ho0 : dW0 K C "harvest" "Garden.harvest" v9 K6
 Zo0 : bI0 K mg "_law_cell_at" "_law_cell_at" zb0 V6
 Qo0 : bI0 K mg "_law_draw" "_law_draw" qb0 V1
 Jo0 : bI0 K mg "_law_whole" "_law_whole" jb0 Y6
 Ko0 : bI0 K mg "_law_crop" "_law_crop" kb0 X6
 Wo0 : bI0 K mg "_law_wants" "_law_wants" wb0 j7
 Vo0 : bI0 K mg "_law_garden" "_law_garden" v7 y7
 Yo0 : bI0 K mg "_law_beds" "_law_beds" vb0 Q7
 Wj0 : bI0 K mg "_law_handed" "_law_handed" J4 Q2
 Xo0 : bI0 K mg "_law_memory" "_law_memory" J9 W7
 zp0 : bI0 K mg "_law_lets" "_law_lets" yb0 V7
 qp0 : bI0 K mg "_law_wanted" "_law_wanted" K9 Y7
 jp0 : bI0 K mg "_law_longer" "_law_longer" xb0 X7
 kp0 : bI0 K mg "_law_may" "_law_may" z8 q8
 wp0 : bI0 K mg "_law_behind" "_law_behind" hb0 j8
 vp0 : bI0 K mg "_law_start" "_law_start" V9 v8
 yp0 : bI0 K mg "_law_gain" "_law_gain" Y9 y8
theorem nJ0 {P : Program} {w : World} {K : PySem.W.Frag} {mg : Str -> Option Value} {base : Heap} {C f : Addr} {fd : FuncData} (F : Fun K "law" "law" j1 f fd) (T : Txt K mg C) (a : Ats K mg C) : FnOk P w K mg base CX0 7 f fd Ye0 (spP lawT) := by
 have hf0 : aK0 P w K mg base 1 "is_within" k5 (w5 C) := let ⟨f, fd, F, r⟩ := a.vn0; ⟨f, fd, ql0 F T , r⟩
 have W0 : aK0 P w K mg base 2 "check_within" Y1 (Z0 C) := let ⟨f, fd, F, r⟩ := a.yn0; ⟨f, fd, jl0 F T hf0, r⟩
 have Q8 : aK0 P w K mg base 1 "check_name" X2 (Y0 C) := let ⟨f, fd, F, r⟩ := a.xn0; ⟨f, fd, kl0 F T , r⟩
 have Qf0 : aK0 P w K mg base 3 "check_beds" v5 (j3 C) := let ⟨f, fd, F, r⟩ := a.hn0; ⟨f, fd, wl0 F T W0, r⟩
 have Zf0 : aK0 P w K mg base 3 "check_crop" Z5 (Z3 C) := let ⟨f, fd, F, r⟩ := a.Zn0; ⟨f, fd, vl0 F T W0, r⟩
 have J8 : aK0 P w K mg base 1 "names_of" Q3 (Q1 C) := let ⟨f, fd, F, r⟩ := a.Qn0; ⟨f, fd, yl0 F T , r⟩
 have Jf0 : aK0 P w K mg base 4 "check_crops" Q5 (J3 C) := let ⟨f, fd, F, r⟩ := a.Jn0; ⟨f, fd, xl0 F T Zf0 Q8 W0 J8, r⟩
 have Kf0 : aK0 P w K mg base 3 "check_wants" J5 (K3 C) := let ⟨f, fd, F, r⟩ := a.Kn0; ⟨f, fd, hl0 F T Q8 W0, r⟩
 have Wf0 : aK0 P w K mg base 1 "numbers_of" K5 (X1 C) := let ⟨f, fd, F, r⟩ := a.Wn0; ⟨f, fd, Zl0 F T , r⟩
 have Yf0 : aK0 P w K mg base 1 "lengthened" W5 (W3 C) := let ⟨f, fd, F, r⟩ := a.Vn0; ⟨f, fd, Ql0 F T , r⟩
 have zh0 : mU0 P w K mg base C 5 "Garden" V5 (Y5 C) := let ⟨f, fd, F, r⟩ := a.Yn0; ⟨f, fd, Jl0 F T Qf0 Jf0 Kf0 J8 Wf0, r⟩
 have j5 : bL0 P w K mg base C 1 "start" X5 (J1 C) := let ⟨f, fd, F, r⟩ := a.Xn0; ⟨f, fd, Kl0 F T , r⟩
 have K8 : bL0 P w K mg base C 1 "lets" V3 (W1 C) := let ⟨f, fd, F, r⟩ := a.zo0; ⟨f, fd, Wl0 F T , r⟩
 have Vf0 : bL0 P w K mg base C 2 "crops_for" j6 (Y3 C) := let ⟨f, fd, F, r⟩ := a.qo0; ⟨f, fd, Vl0 F T K8, r⟩
 have W8 : bL0 P w K mg base C 1 "meets_wants" X3 (Z2 C) := let ⟨f, fd, F, r⟩ := a.jo0; ⟨f, fd, Yl0 F T , r⟩
 have ja0 : bL0 P w K mg base C 3 "may" k6 (V2 C) := let ⟨f, fd, F, r⟩ := a.ko0; ⟨f, fd, Xl0 F T Vf0 W8 Yf0, r⟩
 have Xf0 : bL0 P w K mg base C 1 "bed_behind" w6 (j4 C) := let ⟨f, fd, F, r⟩ := a.wo0; ⟨f, fd, zm0 F T , r⟩
 have zg0 : bL0 P w K mg base C 2 "beds_behind" v6 (y6 C) := let ⟨f, fd, F, r⟩ := a.vo0; ⟨f, fd, qm0 F T Xf0, r⟩
 have qg0 : bL0 P w K mg base C 2 "fits" Z6 (y4 C) := let ⟨f, fd, F, r⟩ := a.yo0; ⟨f, fd, jm0 F T K8 W8, r⟩
 have Zg0 : bL0 P w K mg base C 3 "behind" Q6 (J6 C) := let ⟨f, fd, F, r⟩ := a.xo0; ⟨f, fd, km0 F T zg0 qg0, r⟩
 have Qg0 : bL0 P w K mg base C 1 "harvest" K6 (W6 C) := let ⟨f, fd, F, r⟩ := a.ho0; ⟨f, fd, wm0 F T , r⟩
 have jg0 : aK0 P w K mg base 1 "_law_cell_at" V6 (Z4 C) := let ⟨f, fd, F, r⟩ := a.Zo0; ⟨f, fd, vm0 F T , r⟩
 have Q0 : aK0 P w K mg base 2 "_law_draw" V1 (j0 C) := let ⟨f, fd, F, r⟩ := a.Qo0; ⟨f, fd, ym0 F T jg0, r⟩
 have Xg0 : aK0 P w K mg base 1 "_law_whole" Y6 (y9 C) := let ⟨f, fd, F, r⟩ := a.Jo0; ⟨f, fd, xm0 F T , r⟩
 have kg0 : aK0 P w K mg base 3 "_law_crop" X6 (Q4 C) := let ⟨f, fd, F, r⟩ := a.Ko0; ⟨f, fd, hm0 F T Q0, r⟩
 have wg0 : aK0 P w K mg base 3 "_law_wants" j7 (k7 C) := let ⟨f, fd, F, r⟩ := a.Wo0; ⟨f, fd, Zm0 F T Q0, r⟩
 have Vg0 : aK0 P w K mg base 4 "_law_garden" y7 (Z7 C) := let ⟨f, fd, F, r⟩ := a.Vo0; ⟨f, fd, Qm0 F T kg0 Q0 wg0, r⟩
 have Jg0 : aK0 P w K mg base 3 "_law_beds" Q7 (J7 C) := let ⟨f, fd, F, r⟩ := a.Yo0; ⟨f, fd, Jm0 F T Q0, r⟩
 have Yg0 : aK0 P w K mg base 1 "_law_handed" Q2 (K7 C) := let ⟨f, fd, F, r⟩ := a.Wj0; ⟨f, fd, Km0 F T , r⟩
 have hg0 : aK0 P w K mg base 1 "_law_memory" W7 (K4 C) := let ⟨f, fd, F, r⟩ := a.Xo0; ⟨f, fd, Wm0 F T , r⟩
 have vg0 : aK0 P w K mg base 1 "_law_lets" V7 (J2 C) := let ⟨f, fd, F, r⟩ := a.zp0; ⟨f, fd, Vm0 F T , r⟩
 have xg0 : aK0 P w K mg base 1 "_law_wanted" Y7 (W4 C) := let ⟨f, fd, F, r⟩ := a.qp0; ⟨f, fd, Ym0 F T , r⟩
 have yg0 : aK0 P w K mg base 1 "_law_longer" X7 (V4 C) := let ⟨f, fd, F, r⟩ := a.jp0; ⟨f, fd, Xm0 F T , r⟩
 have zc0 : aK0 P w K mg base 2 "_law_may" q8 (Y4 C) := let ⟨f, fd, F, r⟩ := a.kp0; ⟨f, fd, zn0 F T vg0 yg0 xg0, r⟩
 have Kg0 : aK0 P w K mg base 2 "_law_behind" j8 (k8 C) := let ⟨f, fd, F, r⟩ := a.wp0; ⟨f, fd, qn0 F T hg0, r⟩
 have ka0 : aK0 P w K mg base 1 "_law_start" v8 (Y2 C) := let ⟨f, fd, F, r⟩ := a.vp0; ⟨f, fd, jn0 F T , r⟩
 have Wg0 : aK0 P w K mg base 1 "_law_gain" y8 (h8 C) := let ⟨f, fd, F, r⟩ := a.yp0; ⟨f, fd, kn0 F T , r⟩
 have DN : iJ0 P w K mg base 1 "_law_handed" Q2 (cY0 dx0 cH0 X4 cO0 cP0) := let ⟨f, fd, F, r⟩ := a.Wj0; ⟨f, fd, ea0 F T, r⟩
 exact wn0 F T Zg0 Qg0 ja0 j5 Jg0 Kg0 Q0 Wg0 Vg0 Yg0 zc0 ka0 Xg0 zh0 DN (hY0 C)
theorem no_at {K : PySem.W.Frag} {C : Addr} {x : Str} (h : PySem.W.findIn K (.ref C) x = some none) : NoAttr K C x := h
theorem int_at {K : PySem.W.Frag} {h : Heap} {mg : Str -> Option Value} {x : Str} {i : Int} {v : Value} (X : K.In h) (G : h.Ns mainGlobals mg) (a : PySem.W.nsIn K mainGlobals x = some (some v)) (e : ∃ t, v = .int i t) : ∃ t, mg x = some (.int i t) := let ⟨t, e⟩ := e; ⟨t, e ▸ PySem.W.mg_of X G a⟩
theorem fun_at {K : PySem.W.Frag} {h : Heap} {mg : Str -> Option Value} {x qual : Str} {st : Stmt} {ps : List Str} {f : Addr} {od an : Option Addr} {sl : Array (Option Value)} {oc kV dc pm cd ct : Value} (X : K.In h) (G : h.Ns mainGlobals mg)
  (a : PySem.W.nsIn K mainGlobals x = some (some (.ref f))) (l : K.lookup f = some ⟨oc, od, .func (PySem.W.fnOf x qual (cf0 st) (bt0 st) (af0 st) .none kV dc pm an cd ct), sl⟩) (c : PySem.W.codeIn K cd qual = true) (k : PySem.W.keepIn K (.ref f) = true)
  (b : ∀ {fd : FuncData}, Fun K x qual st f fd -> Binds K fd ps []) : bI0 K mg x qual st ps := ⟨f, _, ep0 (st := st) l c k, PySem.W.mg_of X G a, k, b (ep0 (st := st) l c k)⟩
theorem met_at {K : PySem.W.Frag} {x qual : Str} {st : Stmt} {ps : List Str} {f C : Addr} {od an : Option Addr} {sl : Array (Option Value)} {oc kV dc pm cd ct : Value}
  (a : PySem.W.findIn K (.ref C) x = some (some (.ref f))) (i : PySem.W.isFn K (.ref f) = true) (l : K.lookup f = some ⟨oc, od, .func (PySem.W.fnOf x qual (cf0 st) (bt0 st) (af0 st) .none kV dc pm an cd ct), sl⟩) (c : PySem.W.codeIn K cd qual = true) (k : PySem.W.keepIn K (.ref f) = true)
  (b : ∀ {fd : FuncData}, Fun K x qual st f fd -> Binds K fd ps []) : dW0 K C x qual st ps := ⟨f, _, ep0 (st := st) l c k, ⟨a, i, k⟩, b (ep0 (st := st) l c k)⟩
theorem mak_at {K : PySem.W.Frag} {h : Heap} {mg : Str -> Option Value} {cn qual : Str} {st : Stmt} {ps : List Str} {f C : Addr} {od an : Option Addr} {sl : Array (Option Value)} {oc kV dc pm cd ct : Value} (X : K.In h) (G : h.Ns mainGlobals mg)
  (n : PySem.W.nsIn K mainGlobals cn = some (some (.ref C))) (mk : PySem.W.makesIn K C = true) (kc : PySem.W.keepIn K (.ref C) = true)
  (a : PySem.W.findIn K (.ref C) "__init__" = some (some (.ref f))) (i : PySem.W.isFn K (.ref f) = true) (l : K.lookup f = some ⟨oc, od, .func (PySem.W.fnOf "__init__" qual (cf0 st) (bt0 st) (af0 st) .none kV dc pm an cd ct), sl⟩) (c : PySem.W.codeIn K cd qual = true) (k : PySem.W.keepIn K (.ref f) = true)
  (b : ∀ {fd : FuncData}, Fun K "__init__" qual st f fd -> Binds K fd ps []) : MakAt K mg C cn qual st ps := ⟨f, _, ep0 (st := st) l c k, ⟨mk, a, i, kc⟩, PySem.W.mg_of X G n, b (ep0 (st := st) l c k)⟩
theorem xp0 {K : PySem.W.Frag} {f : Addr} {fd : FuncData} (F : Fun K "is_within" "is_within" wa0 f fd) : Binds K fd k5 [] := F.binds (ps := k5) fun _ _ _ _ _ _ us hl => match us, hl with | [_, _, _], _ => rfl
theorem hp0 {K : PySem.W.Frag} {f : Addr} {fd : FuncData} (F : Fun K "check_within" "check_within" va0 f fd) : Binds K fd Y1 [] := F.binds (ps := Y1) fun _ _ _ _ _ _ us hl => match us, hl with | [_, _, _, _], _ => rfl
theorem Zp0 {K : PySem.W.Frag} {f : Addr} {fd : FuncData} (F : Fun K "check_name" "check_name" ya0 f fd) : Binds K fd X2 [] := F.binds (ps := X2) fun _ _ _ _ _ _ us hl => match us, hl with | [_, _], _ => rfl
theorem Qp0 {K : PySem.W.Frag} {f : Addr} {fd : FuncData} (F : Fun K "check_beds" "check_beds" xa0 f fd) : Binds K fd v5 [] := F.binds (ps := v5) fun _ _ _ _ _ _ us hl => match us, hl with | [_, _], _ => rfl
theorem Jp0 {K : PySem.W.Frag} {f : Addr} {fd : FuncData} (F : Fun K "check_crop" "check_crop" ha0 f fd) : Binds K fd Z5 [] := F.binds (ps := Z5) fun _ _ _ _ _ _ us hl => match us, hl with | [_], _ => rfl
theorem Kp0 {K : PySem.W.Frag} {f : Addr} {fd : FuncData} (F : Fun K "names_of" "names_of" V8 f fd) : Binds K fd Q3 [] := F.binds (ps := Q3) fun _ _ _ _ _ _ us hl => match us, hl with | [_], _ => rfl
theorem Wp0 {K : PySem.W.Frag} {f : Addr} {fd : FuncData} (F : Fun K "check_crops" "check_crops" Za0 f fd) : Binds K fd Q5 [] := F.binds (ps := Q5) fun _ _ _ _ _ _ us hl => match us, hl with | [_], _ => rfl
theorem Vp0 {K : PySem.W.Frag} {f : Addr} {fd : FuncData} (F : Fun K "check_wants" "check_wants" Qa0 f fd) : Binds K fd J5 [] := F.binds (ps := J5) fun _ _ _ _ _ _ us hl => match us, hl with | [_, _], _ => rfl
theorem Yp0 {K : PySem.W.Frag} {f : Addr} {fd : FuncData} (F : Fun K "numbers_of" "numbers_of" Y8 f fd) : Binds K fd K5 [] := F.binds (ps := K5) fun _ _ _ _ _ _ us hl => match us, hl with | [_, _], _ => rfl
theorem Xp0 {K : PySem.W.Frag} {f : Addr} {fd : FuncData} (F : Fun K "lengthened" "lengthened" X8 f fd) : Binds K fd W5 [] := F.binds (ps := W5) fun _ _ _ _ _ _ us hl => match us, hl with | [_, _], _ => rfl
theorem zq0 {K : PySem.W.Frag} {f : Addr} {fd : FuncData} (F : Fun K "__init__" "Garden.__init__" j2 f fd) : Binds K fd V5 [] := F.binds (ps := V5) fun _ _ _ _ _ _ us hl => match us, hl with | [_, _, _, _, _], _ => rfl
theorem qq0 {K : PySem.W.Frag} {f : Addr} {fd : FuncData} (F : Fun K "start" "Garden.start" z9 f fd) : Binds K fd X5 [] := F.binds (ps := X5) fun _ _ _ _ _ _ us hl => match us, hl with | [_], _ => rfl
theorem jq0 {K : PySem.W.Frag} {f : Addr} {fd : FuncData} (F : Fun K "lets" "Garden.lets" Ja0 f fd) : Binds K fd V3 [] := F.binds (ps := V3) fun _ _ _ _ _ _ us hl => match us, hl with | [_, _, _, _], _ => rfl
theorem kq0 {K : PySem.W.Frag} {f : Addr} {fd : FuncData} (F : Fun K "crops_for" "Garden.crops_for" q9 f fd) : Binds K fd j6 [] := F.binds (ps := j6) fun _ _ _ _ _ _ us hl => match us, hl with | [_, _, _], _ => rfl
theorem wq0 {K : PySem.W.Frag} {f : Addr} {fd : FuncData} (F : Fun K "meets_wants" "Garden.meets_wants" Ka0 f fd) : Binds K fd X3 [] := F.binds (ps := X3) fun _ _ _ _ _ _ us hl => match us, hl with | [_, _], _ => rfl
theorem vq0 {K : PySem.W.Frag} {f : Addr} {fd : FuncData} (F : Fun K "may" "Garden.may" j9 f fd) : Binds K fd k6 [] := F.binds (ps := k6) fun _ _ _ _ _ _ us hl => match us, hl with | [_, _], _ => rfl
theorem yq0 {K : PySem.W.Frag} {f : Addr} {fd : FuncData} (F : Fun K "bed_behind" "Garden.bed_behind" Wa0 f fd) : Binds K fd w6 [] := F.binds (ps := w6) fun _ _ _ _ _ _ us hl => match us, hl with | [_, _, _, _], _ => rfl
theorem xq0 {K : PySem.W.Frag} {f : Addr} {fd : FuncData} (F : Fun K "beds_behind" "Garden.beds_behind" w9 f fd) : Binds K fd v6 [] := F.binds (ps := v6) fun _ _ _ _ _ _ us hl => match us, hl with | [_, _, _], _ => rfl
theorem hq0 {K : PySem.W.Frag} {f : Addr} {fd : FuncData} (F : Fun K "fits" "Garden.fits" Ya0 f fd) : Binds K fd Z6 [] := F.binds (ps := Z6) fun _ _ _ _ _ _ us hl => match us, hl with | [_, _, _], _ => rfl
theorem Zq0 {K : PySem.W.Frag} {f : Addr} {fd : FuncData} (F : Fun K "behind" "Garden.behind" Xa0 f fd) : Binds K fd Q6 [] := F.binds (ps := Q6) fun _ _ _ _ _ _ us hl => match us, hl with | [_, _, _], _ => rfl
theorem Qq0 {K : PySem.W.Frag} {f : Addr} {fd : FuncData} (F : Fun K "harvest" "Garden.harvest" v9 f fd) : Binds K fd K6 [] := F.binds (ps := K6) fun _ _ _ _ _ _ us hl => match us, hl with | [_, _], _ => rfl
theorem Jq0 {K : PySem.W.Frag} {f : Addr} {fd : FuncData} (F : Fun K "_law_cell_at" "_law_cell_at" zb0 f fd) : Binds K fd V6 [] := F.binds (ps := V6) fun _ _ _ _ _ _ us hl => match us, hl with | [_, _], _ => rfl
theorem Kq0 {K : PySem.W.Frag} {f : Addr} {fd : FuncData} (F : Fun K "_law_draw" "_law_draw" qb0 f fd) : Binds K fd V1 [] := F.binds (ps := V1) fun _ _ _ _ _ _ us hl => match us, hl with | [_, _], _ => rfl
theorem Wq0 {K : PySem.W.Frag} {f : Addr} {fd : FuncData} (F : Fun K "_law_whole" "_law_whole" jb0 f fd) : Binds K fd Y6 [] := F.binds (ps := Y6) fun _ _ _ _ _ _ us hl => match us, hl with | [_], _ => rfl
theorem Vq0 {K : PySem.W.Frag} {f : Addr} {fd : FuncData} (F : Fun K "_law_crop" "_law_crop" kb0 f fd) : Binds K fd X6 [] := F.binds (ps := X6) fun _ _ _ _ _ _ us hl => match us, hl with | [_, _, _, _], _ => rfl
theorem Yq0 {K : PySem.W.Frag} {f : Addr} {fd : FuncData} (F : Fun K "_law_wants" "_law_wants" wb0 f fd) : Binds K fd j7 [] := F.binds (ps := j7) fun _ _ _ _ _ _ us hl => match us, hl with | [_, _, _], _ => rfl
theorem Xq0 {K : PySem.W.Frag} {f : Addr} {fd : FuncData} (F : Fun K "_law_garden" "_law_garden" v7 f fd) : Binds K fd y7 [] := F.binds (ps := y7) fun _ _ _ _ _ _ us hl => match us, hl with | [_, _], _ => rfl
theorem zr0 {K : PySem.W.Frag} {f : Addr} {fd : FuncData} (F : Fun K "_law_beds" "_law_beds" vb0 f fd) : Binds K fd Q7 [] := F.binds (ps := Q7) fun _ _ _ _ _ _ us hl => match us, hl with | [_, _], _ => rfl
theorem qr0 {K : PySem.W.Frag} {f : Addr} {fd : FuncData} (F : Fun K "_law_handed" "_law_handed" J4 f fd) : Binds K fd Q2 [] := F.binds (ps := Q2) fun _ _ _ _ _ _ us hl => match us, hl with | [_], _ => rfl
theorem jr0 {K : PySem.W.Frag} {f : Addr} {fd : FuncData} (F : Fun K "_law_memory" "_law_memory" J9 f fd) : Binds K fd W7 [] := F.binds (ps := W7) fun _ _ _ _ _ _ us hl => match us, hl with | [_], _ => rfl
theorem kr0 {K : PySem.W.Frag} {f : Addr} {fd : FuncData} (F : Fun K "_law_lets" "_law_lets" yb0 f fd) : Binds K fd V7 [] := F.binds (ps := V7) fun _ _ _ _ _ _ us hl => match us, hl with | [_, _, _], _ => rfl
theorem wr0 {K : PySem.W.Frag} {f : Addr} {fd : FuncData} (F : Fun K "_law_wanted" "_law_wanted" K9 f fd) : Binds K fd Y7 [] := F.binds (ps := Y7) fun _ _ _ _ _ _ us hl => match us, hl with | [_, _], _ => rfl
theorem vr0 {K : PySem.W.Frag} {f : Addr} {fd : FuncData} (F : Fun K "_law_longer" "_law_longer" xb0 f fd) : Binds K fd X7 [] := F.binds (ps := X7) fun _ _ _ _ _ _ us hl => match us, hl with | [_, _], _ => rfl
theorem yr0 {K : PySem.W.Frag} {f : Addr} {fd : FuncData} (F : Fun K "_law_may" "_law_may" z8 f fd) : Binds K fd q8 [] := F.binds (ps := q8) fun _ _ _ _ _ _ us hl => match us, hl with | [_, _], _ => rfl
theorem xr0 {K : PySem.W.Frag} {f : Addr} {fd : FuncData} (F : Fun K "_law_behind" "_law_behind" hb0 f fd) : Binds K fd j8 [] := F.binds (ps := j8) fun _ _ _ _ _ _ us hl => match us, hl with | [_, _, _], _ => rfl
theorem Zr0 {K : PySem.W.Frag} {f : Addr} {fd : FuncData} (F : Fun K "_law_start" "_law_start" V9 f fd) : Binds K fd v8 [] := F.binds (ps := v8) fun _ _ _ _ _ _ us hl => match us, hl with | [_], _ => rfl
theorem Qr0 {K : PySem.W.Frag} {f : Addr} {fd : FuncData} (F : Fun K "_law_gain" "_law_gain" Y9 f fd) : Binds K fd y8 [] := F.binds (ps := y8) fun _ _ _ _ _ _ us hl => match us, hl with | [_, _], _ => rfl
def NoList (K : PySem.W.Frag) : Prop := (K.all fun q => q.2.cls != .type "list") = true
theorem gZ0 {a : Addr} {o : Obj} : ∀ {K : List (Addr × Obj)}, K.lookup a = some o -> (a, o) ∈ K
 | [], h => by simp at h
 | (b, u) :: K, h => by
  rw [List.lookup_cons] at h
  cases q : a == b with
  | true =>
   rw [q] at h
   cases h
   rw [beq_iff_eq.mp q]
   exact List.mem_cons_self ..
  | false =>
   rw [q] at h
   exact List.mem_cons_of_mem _ (gZ0 h)
theorem NoList.at {K : PySem.W.Frag} (h : NoList K) {a : Addr} {o : Obj} (e : K.lookup a = some o) : o.cls ≠ .type "list" := fun z => by
 have := List.all_eq_true.mp h (a, o) (gZ0 e)
 rw [z] at this
 simp at this
def lq0 (K : PySem.W.Frag) : Sp := fun vs H Q _ => ∃ (a : Addr) (ns : List Int), vs = [.ref a] /\ Only H /\ SqL K H a (ns.map V.int) /\ ns.length <= 63 /\ ∀ H', Q (.bl true) H'
theorem oH0 {P : Program} {w : World} {K : PySem.W.Frag} {mg : Str -> Option Value} {base : Heap} {f : Addr} {fd : FuncData} {k : Nat} (hk : k <= 8) (nl : NoList K) (F : FnOk P w K mg base CX0 k f fd Ye0 (spP lawT)) : FnOk P w K mg base CX0 8 f fd ["script"] (lq0 K) := by
 refine (F.mono hk).imp fun vs H Q E h => ?_
 obtain ⟨l, ns, rfl, hO, hS, hl, q⟩ := h
 rcases hS with (hS | ⟨o, hS⟩) | ⟨o, its, n, lk, hc, _⟩
 ·rcases hO l with z | ⟨o, xs, z⟩
  ·rw [z] at hS; cases hS
  ·rw [z] at hS; cases hS
 ·refine ⟨fun b => b = l, [scrT ns], false, .bl true, fun b hb => ⟨_, hb ▸ hS⟩, .cons (.scr rfl hS) .nil, oh0 ns, fun F' v H' _ r => ?_⟩
  have r : Rp F' H' v (.bl true) := r
  cases r
  exact q H'
 ·exact absurd hc (nl.at lk)
theorem walk {l : PySem.W.OpenLaw} {q : Program} {loose : List Str} {XP : (Str -> Option Value) -> Heap -> Prop} {YP : World -> Heap -> Prop} {d : DefRec} {K : Params -> PySem.W.Frag} (hn : l.most = some 63) (hdf : d.params.defaults = [])
  (hY : ∀ (w : World) (h : Heap), YP w h -> (K w.params).In h)
  (F : ∀ (w : World) (mg : Str -> Option Value) (fa : Addr) (h : Heap), (K w.params).In h -> h.Ns mainGlobals mg -> mg d.name = some (.ref fa) ->
   ∃ fd : FuncData, (∀ (s : Shared) (u : Value), BindsTo s fd ⟨[u], []⟩ [("script", u)]) /\ ∀ base : Heap, (K w.params).In base -> base.Ns mainGlobals mg -> FnOk l.prog w (K w.params) mg base CX0 8 fa fd ["script"] (lq0 (K w.params))) :
  PySem.W.WalkO q loose XP YP l.row.toRowW d [] (fun f vs => PySem.call f vs) :=
 L2.walk_of (n := 63) (k := 8) (x := "script") (CX := fun _ => CX0) (sp := fun w => lq0 (K w.params)) hn (by decide) hdf ⟨rfl, by decide, by decide⟩ hY F (fun _ _ a ns hl hO hS => ⟨a, ns, rfl, hO, hS, hl, fun _ => rfl⟩) fun _ _ _ _ _ z => z
theorem law_mk {l : PySem.W.OpenLaw} {w : World} {K : PySem.W.Frag} {h : Heap} {mg : Str -> Option Value} {fa C f4 : Addr} (X : K.In h) (G : h.Ns mainGlobals mg) (hfa : mg "law" = some (.ref fa))
  {od4 an4 : Option Addr} {sl4 : Array (Option Value)} {oc4 kV4 dc4 pm4 cd4 ct4 : Value} (aC : PySem.W.nsIn K mainGlobals "Garden" = some (some (.ref C))) 
  (nl : NoList K) (T : Txt K mg C) (a : Ats K mg C)
  (a4 : PySem.W.nsIn K mainGlobals "law" = some (some (.ref f4))) (l4 : K.lookup f4 = some ⟨oc4, od4, .func (PySem.W.fnOf "law" "law" (cf0 j1) (bt0 j1) (af0 j1) .none kV4 dc4 pm4 an4 cd4 ct4), sl4⟩) (c4 : PySem.W.codeIn K cd4 "law" = true) (k4 : PySem.W.keepIn K (.ref f4) = true) :
  ∃ fd : FuncData, (∀ (s : Shared) (v : Value), BindsTo s fd ⟨[v], []⟩ [("script", v)]) /\ ∀ base : Heap, K.In base -> base.Ns mainGlobals mg -> FnOk l.prog w K mg base CX0 8 fa fd ["script"] (lq0 K) := by
 have e := hfa.symm.trans (PySem.W.mg_of X G a4)
 cases e
 exact ⟨PySem.W.fnOf "law" "law" (cf0 j1) (bt0 j1) (af0 j1) .none kV4 dc4 pm4 an4 cd4 ct4, fun s v => .of_eq rfl, fun base _ _ => oH0 (by decide : 7 <= 8) nl (nJ0 (ep0 (st := j1) l4 c4 k4) T a)⟩
end Bed1
open PySem PySem.W PyProof.Rows
set_option Elab.async false
set_option maxRecDepth 100000 in
set_option maxHeartbeats 0 in
theorem PySem.Challenge.cw_bedround_k01_gardens_holds : PySem.Challenge.rw_bedround_k01_gardens.Holds := by
 w_on; o_law
 refine PySem.W.holds_open (r := PySem.Challenge.rw_bedround_k01_gardens.row) (XP := XL Bed1.qv []) (YP := Hook.says (kHook Bed1.KK Bed1.KA Bed1.KE)) Bed1.HL (Hook.of (kHook Bed1.KK Bed1.KA Bed1.KE)) (Hook.keeps (kHook Bed1.KK Bed1.KA Bed1.KE)) (fun s e => xl_of s (Bool.and_eq_true_iff.mp e).1) XL.keeps (by rfl) (by rfl) (by rfl) (fun s e => recFacts_of (Bool.and_eq_true_iff.mp e).2) (by rfl) (by first | assumption | decide +kernel) (by decide +kernel) ⟨rfl, rfl, rfl, rfl, rfl, by decide +kernel⟩ ?hw ?hc
 (case hw => w_witness2)
 k_fill
 refine Bed1.walk (l := PySem.Challenge.rw_bedround_k01_gardens) rfl rfl (fun w h Y => PySem.W.kIn_of Y) ?F
 case F =>
  intro w mg fa h KX G hmg
  refine' Bed1.law_mk KX G hmg ?aC ?nl ?T ?A ?a4 ?l4 ?c4 ?k4
  (case aC => k_is)
  (case nl => exact (show Bed1.NoList _ from rfl))
  case T =>
   refine' ⟨⟨?pg, ?hd, ?po, ?sa⟩, Bed1.no_at ?Jr0, Bed1.no_at ?Kr0, Bed1.no_at ?Wr0, Bed1.no_at ?Vr0, Bed1.no_at ?Yr0, Bed1.no_at ?Xr0, Bed1.no_at ?zs0, Bed1.no_at ?qs0, PySem.W.mg_none_of KX G ?Jb0, PySem.W.mg_none_of KX G ?za0, PySem.W.mg_none_of KX G ?Kb0, PySem.W.mg_none_of KX G ?V0, PySem.W.mg_none_of KX G ?J0, PySem.W.mg_none_of KX G ?W2, PySem.W.mg_none_of KX G ?qa0, PySem.W.mg_none_of KX G ?Z8, PySem.W.mg_none_of KX G ?Z1, PySem.W.mg_none_of KX G ?zf0, PySem.W.mg_none_of KX G ?qf0, PySem.W.mg_none_of KX G ?Wb0, PySem.W.mg_none_of KX G ?K0, PySem.W.mg_none_of KX G ?Vb0, Bed1.int_at KX G ?jf0 ?e_MOST_BEDS, Bed1.int_at KX G ?Yb0 ?e_MOST_CHANGE, Bed1.int_at KX G ?kf0 ?e_MOST_CROPS, Bed1.int_at KX G ?wf0 ?e_MOST_GAP, Bed1.int_at KX G ?vf0 ?e_MOST_HARVEST, Bed1.int_at KX G ?yf0 ?e_MOST_TOP, Bed1.int_at KX G ?xf0 ?e_MOST_WANTED⟩
   (case jf0 => k_is); (case e_MOST_BEDS => exact ⟨_, rfl⟩)
   (case Yb0 => k_is); (case e_MOST_CHANGE => exact ⟨_, rfl⟩)
   (case kf0 => k_is); (case e_MOST_CROPS => exact ⟨_, rfl⟩)
   (case wf0 => k_is); (case e_MOST_GAP => exact ⟨_, rfl⟩)
   (case vf0 => k_is); (case e_MOST_HARVEST => exact ⟨_, rfl⟩)
   (case yf0 => k_is); (case e_MOST_TOP => exact ⟨_, rfl⟩)
   (case xf0 => k_is); (case e_MOST_WANTED => exact ⟨_, rfl⟩)
   (case pg => k_is); (case hd => k_is); (case po => k_is); (case sa => k_is)
   (case Jr0 => k_is)
   (case Kr0 => k_is)
   (case Wr0 => k_is)
   (case Vr0 => k_is)
   (case Yr0 => k_is)
   (case Xr0 => k_is)
   (case zs0 => k_is)
   (case qs0 => k_is)
   (case Jb0 => k_is)
   (case za0 => k_is)
   (case Kb0 => k_is)
   (case V0 => k_is)
   (case J0 => k_is)
   (case W2 => k_is)
   (case qa0 => k_is)
   (case Z8 => k_is)
   (case Z1 => k_is)
   (case zf0 => k_is)
   (case qf0 => k_is)
   (case Wb0 => k_is)
   (case K0 => k_is)
   (case Vb0 => k_is)
  case A =>
   refine' ⟨Bed1.fun_at KX G ?is_withina ?is_withinl ?is_withinc ?is_withink Bed1.xp0, Bed1.fun_at KX G ?check_withina ?check_withinl ?check_withinc ?check_withink Bed1.hp0, Bed1.fun_at KX G ?check_namea ?check_namel ?check_namec ?check_namek Bed1.Zp0, Bed1.fun_at KX G ?check_bedsa ?check_bedsl ?check_bedsc ?check_bedsk Bed1.Qp0, Bed1.fun_at KX G ?check_cropa ?check_cropl ?check_cropc ?check_cropk Bed1.Jp0, Bed1.fun_at KX G ?names_ofa ?names_ofl ?names_ofc ?names_ofk Bed1.Kp0, Bed1.fun_at KX G ?check_cropsa ?check_cropsl ?check_cropsc ?check_cropsk Bed1.Wp0, Bed1.fun_at KX G ?check_wantsa ?check_wantsl ?check_wantsc ?check_wantsk Bed1.Vp0, Bed1.fun_at KX G ?numbers_ofa ?numbers_ofl ?numbers_ofc ?numbers_ofk Bed1.Yp0, Bed1.fun_at KX G ?lengtheneda ?lengthenedl ?lengthenedc ?lengthenedk Bed1.Xp0, Bed1.mak_at KX G ?Garden_initn ?Garden_initm ?Garden_initq ?Garden_inita ?Garden_initi ?Garden_initl ?Garden_initc ?Garden_initk Bed1.zq0, Bed1.met_at ?Garden_starta ?Garden_starti ?Garden_startl ?Garden_startc ?Garden_startk Bed1.qq0, Bed1.met_at ?Garden_letsa ?Garden_letsi ?Garden_letsl ?Garden_letsc ?Garden_letsk Bed1.jq0, Bed1.met_at ?Garden_crops_fora ?Garden_crops_fori ?Garden_crops_forl ?Garden_crops_forc ?Garden_crops_fork Bed1.kq0, Bed1.met_at ?Garden_meets_wantsa ?Garden_meets_wantsi ?Garden_meets_wantsl ?Garden_meets_wantsc ?Garden_meets_wantsk Bed1.wq0, Bed1.met_at ?Garden_maya ?Garden_mayi ?Garden_mayl ?Garden_mayc ?Garden_mayk Bed1.vq0, Bed1.met_at ?Garden_bed_behinda ?Garden_bed_behindi ?Garden_bed_behindl ?Garden_bed_behindc ?Garden_bed_behindk Bed1.yq0, Bed1.met_at ?Garden_beds_behinda ?Garden_beds_behindi ?Garden_beds_behindl ?Garden_beds_behindc ?Garden_beds_behindk Bed1.xq0, Bed1.met_at ?Garden_fitsa ?Garden_fitsi ?Garden_fitsl ?Garden_fitsc ?Garden_fitsk Bed1.hq0, Bed1.met_at ?Garden_behinda ?Garden_behindi ?Garden_behindl ?Garden_behindc ?Garden_behindk Bed1.Zq0, Bed1.met_at ?Garden_harvesta ?Garden_harvesti ?Garden_harvestl ?Garden_harvestc ?Garden_harvestk Bed1.Qq0, Bed1.fun_at KX G ?_law_cell_ata ?_law_cell_atl ?_law_cell_atc ?_law_cell_atk Bed1.Jq0, Bed1.fun_at KX G ?_law_drawa ?_law_drawl ?_law_drawc ?_law_drawk Bed1.Kq0, Bed1.fun_at KX G ?_law_wholea ?_law_wholel ?_law_wholec ?_law_wholek Bed1.Wq0, Bed1.fun_at KX G ?_law_cropa ?_law_cropl ?_law_cropc ?_law_cropk Bed1.Vq0, Bed1.fun_at KX G ?_law_wantsa ?_law_wantsl ?_law_wantsc ?_law_wantsk Bed1.Yq0, Bed1.fun_at KX G ?_law_gardena ?_law_gardenl ?_law_gardenc ?_law_gardenk Bed1.Xq0, Bed1.fun_at KX G ?_law_bedsa ?_law_bedsl ?_law_bedsc ?_law_bedsk Bed1.zr0, Bed1.fun_at KX G ?_law_handeda ?_law_handedl ?_law_handedc ?_law_handedk Bed1.qr0, Bed1.fun_at KX G ?_law_memorya ?_law_memoryl ?_law_memoryc ?_law_memoryk Bed1.jr0, Bed1.fun_at KX G ?_law_letsa ?_law_letsl ?_law_letsc ?_law_letsk Bed1.kr0, Bed1.fun_at KX G ?_law_wanteda ?_law_wantedl ?_law_wantedc ?_law_wantedk Bed1.wr0, Bed1.fun_at KX G ?_law_longera ?_law_longerl ?_law_longerc ?_law_longerk Bed1.vr0, Bed1.fun_at KX G ?_law_maya ?_law_mayl ?_law_mayc ?_law_mayk Bed1.yr0, Bed1.fun_at KX G ?_law_behinda ?_law_behindl ?_law_behindc ?_law_behindk Bed1.xr0, Bed1.fun_at KX G ?_law_starta ?_law_startl ?_law_startc ?_law_startk Bed1.Zr0, Bed1.fun_at KX G ?_law_gaina ?_law_gainl ?_law_gainc ?_law_gaink Bed1.Qr0⟩
   (case is_withina => k_is); (case is_withinl => k_is); (case is_withinc => k_is); (case is_withink => k_is)
   (case check_withina => k_is); (case check_withinl => k_is); (case check_withinc => k_is); (case check_withink => k_is)
   (case check_namea => k_is); (case check_namel => k_is); (case check_namec => k_is); (case check_namek => k_is)
   (case check_bedsa => k_is); (case check_bedsl => k_is); (case check_bedsc => k_is); (case check_bedsk => k_is)
   (case check_cropa => k_is); (case check_cropl => k_is); (case check_cropc => k_is); (case check_cropk => k_is)
   (case names_ofa => k_is); (case names_ofl => k_is); (case names_ofc => k_is); (case names_ofk => k_is)
   (case check_cropsa => k_is); (case check_cropsl => k_is); (case check_cropsc => k_is); (case check_cropsk => k_is)
   (case check_wantsa => k_is); (case check_wantsl => k_is); (case check_wantsc => k_is); (case check_wantsk => k_is)
   (case numbers_ofa => k_is); (case numbers_ofl => k_is); (case numbers_ofc => k_is); (case numbers_ofk => k_is)
   (case lengtheneda => k_is); (case lengthenedl => k_is); (case lengthenedc => k_is); (case lengthenedk => k_is)
   (case Garden_initn => k_is); (case Garden_initm => k_is); (case Garden_initq => k_is); (case Garden_inita => k_is); (case Garden_initi => k_is); (case Garden_initl => k_is); (case Garden_initc => k_is); (case Garden_initk => k_is)
   (case Garden_starta => k_is); (case Garden_starti => k_is); (case Garden_startl => k_is); (case Garden_startc => k_is); (case Garden_startk => k_is)
   (case Garden_letsa => k_is); (case Garden_letsi => k_is); (case Garden_letsl => k_is); (case Garden_letsc => k_is); (case Garden_letsk => k_is)
   (case Garden_crops_fora => k_is); (case Garden_crops_fori => k_is); (case Garden_crops_forl => k_is); (case Garden_crops_forc => k_is); (case Garden_crops_fork => k_is)
   (case Garden_meets_wantsa => k_is); (case Garden_meets_wantsi => k_is); (case Garden_meets_wantsl => k_is); (case Garden_meets_wantsc => k_is); (case Garden_meets_wantsk => k_is)
   (case Garden_maya => k_is); (case Garden_mayi => k_is); (case Garden_mayl => k_is); (case Garden_mayc => k_is); (case Garden_mayk => k_is)
   (case Garden_bed_behinda => k_is); (case Garden_bed_behindi => k_is); (case Garden_bed_behindl => k_is); (case Garden_bed_behindc => k_is); (case Garden_bed_behindk => k_is)
   (case Garden_beds_behinda => k_is); (case Garden_beds_behindi => k_is); (case Garden_beds_behindl => k_is); (case Garden_beds_behindc => k_is); (case Garden_beds_behindk => k_is)
   (case Garden_fitsa => k_is); (case Garden_fitsi => k_is); (case Garden_fitsl => k_is); (case Garden_fitsc => k_is); (case Garden_fitsk => k_is)
   (case Garden_behinda => k_is); (case Garden_behindi => k_is); (case Garden_behindl => k_is); (case Garden_behindc => k_is); (case Garden_behindk => k_is)
   (case Garden_harvesta => k_is); (case Garden_harvesti => k_is); (case Garden_harvestl => k_is); (case Garden_harvestc => k_is); (case Garden_harvestk => k_is)
   (case _law_cell_ata => k_is); (case _law_cell_atl => k_is); (case _law_cell_atc => k_is); (case _law_cell_atk => k_is)
   (case _law_drawa => k_is); (case _law_drawl => k_is); (case _law_drawc => k_is); (case _law_drawk => k_is)
   (case _law_wholea => k_is); (case _law_wholel => k_is); (case _law_wholec => k_is); (case _law_wholek => k_is)
   (case _law_cropa => k_is); (case _law_cropl => k_is); (case _law_cropc => k_is); (case _law_cropk => k_is)
   (case _law_wantsa => k_is); (case _law_wantsl => k_is); (case _law_wantsc => k_is); (case _law_wantsk => k_is)
   (case _law_gardena => k_is); (case _law_gardenl => k_is); (case _law_gardenc => k_is); (case _law_gardenk => k_is)
   (case _law_bedsa => k_is); (case _law_bedsl => k_is); (case _law_bedsc => k_is); (case _law_bedsk => k_is)
   (case _law_handeda => k_is); (case _law_handedl => k_is); (case _law_handedc => k_is); (case _law_handedk => k_is)
   (case _law_memorya => k_is); (case _law_memoryl => k_is); (case _law_memoryc => k_is); (case _law_memoryk => k_is)
   (case _law_letsa => k_is); (case _law_letsl => k_is); (case _law_letsc => k_is); (case _law_letsk => k_is)
   (case _law_wanteda => k_is); (case _law_wantedl => k_is); (case _law_wantedc => k_is); (case _law_wantedk => k_is)
   (case _law_longera => k_is); (case _law_longerl => k_is); (case _law_longerc => k_is); (case _law_longerk => k_is)
   (case _law_maya => k_is); (case _law_mayl => k_is); (case _law_mayc => k_is); (case _law_mayk => k_is)
   (case _law_behinda => k_is); (case _law_behindl => k_is); (case _law_behindc => k_is); (case _law_behindk => k_is)
   (case _law_starta => k_is); (case _law_startl => k_is); (case _law_startc => k_is); (case _law_startk => k_is)
   (case _law_gaina => k_is); (case _law_gainl => k_is); (case _law_gainc => k_is); (case _law_gaink => k_is)
  (case a4 => k_is); (case l4 => k_is); (case c4 => k_is); (case k4 => k_is)
