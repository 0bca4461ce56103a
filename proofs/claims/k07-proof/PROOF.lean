import PyProof.Rows.All
import Wide.All
import OpenK.AllK
import Wide.FinOn
import PyProof.EqAt
import PyProof.EqKinds
import PyProof.TupleCall
import PyProof.NeKinds
import PySem.Challenge.RW_bedround_k07_whole_longest_or_for_ever
noncomputable section
set_option Elab.async false
set_option linter.all false
set_option maxRecDepth 100000
set_option maxHeartbeats 4000000
set_option autoImplicit true
set_option relaxedAutoImplicit true
open PySem PySem.Spec PyProof.Rows
section
open PySem PySem.Spec PySem.W PyProof.Rows
abbrev Aa0:=@wpAny_bind
abbrev Aa1:=@List.length_map
abbrev Aa2:=@Option.bind_some
abbrev Aa4:=@List.getElem?_eq_getElem
abbrev Aa5:=@List.length_append
abbrev Aa6:=@List.mem_singleton
abbrev Aa7:=@Heap.get?_push_of_some
abbrev Aa8:=@wpAny_pure
abbrev Aa9:=@List.getElem?_eq_some_iff
abbrev Ab0:=@List.getElem?_map
abbrev Ab1:=@Nat.le_refl
abbrev Ab2:=@List.mem_cons
abbrev Ab3:=@List.getElem?_append_left
abbrev Ab4:=@Bool.false_ne_true
abbrev Ab5:=@List.length_singleton
abbrev Ab6:=@Heap.lt_size
abbrev Ab7:=@Heap.get?_push_size
abbrev Ab8:=@List.size_toArray
abbrev Ab9:=@List.getElem?_append_right
abbrev Ac0:=@List.mem_map
abbrev Ac1:=@List.mem_append_right
abbrev Ac2:=@List.map_cons
abbrev Ac3:=@List.map_append
abbrev Ac4:=@List.length_cons
abbrev Ac5:=@List.lookup_cons
abbrev Ac6:=@Nat.le_trans
abbrev Ac7:=@List.mem_of_getElem?
abbrev Ac8:=@Bool.and_eq_true
abbrev Ac9:=@Int.toNat_natCast
abbrev Ad0:=@List.not_mem_nil
abbrev Ad1:=@Nat.lt_of_lt_of_le
abbrev Ad2:=@List.map_map
abbrev Ad3:=@decide_eq_false
abbrev Ad4:=@Nat.ne_of_lt
abbrev Ad5:=@Option.map_some
abbrev Ad6:=@Bool.false_eq_true
abbrev Ad7:=@List.getElem?_set_ne
abbrev Ad8:=@List.mem_append
abbrev Ad9:=@decide_eq_true
abbrev Ae0:=@PySem.F.plainAttrs_list
abbrev Ae1:=@sizeLine_eq
abbrev Ae2:=@List.eq_nil_of_length_eq_zero
abbrev Ae3:=@List.set_cons_zero
abbrev Ae4:=@List.set_cons_succ
abbrev Ae5:=@Nat.zero_le
abbrev Ae6:=@List.mem_cons_of_mem
abbrev Ae7:=@List.take_length
abbrev Ae8:=@List.nodup_cons
abbrev Ae9:=@List.getElem?_cons_succ
abbrev Af0:=@List.dropLast_concat_getLast
abbrev Af1:=@List.getD_eq_getElem?_getD
abbrev Af2:=@PySem.W.mg_none_of
abbrev Af3:=@List.length_replicate
abbrev Af4:=@List.getElem?_cons_zero
abbrev Af5:=@List.getElem?_replicate
abbrev Af6:=@Heap.size_push
abbrev Af7:=@List.length_take
abbrev Af8:=@List.mem_cons_self
abbrev Af9:=@Nat.zero_add
abbrev Ag0:=@List.singleton_append
abbrev Ag1:=@wpAny_callSpecial?_slot
abbrev Ag2:=@List.mem_append_left
abbrev Ag3:=@Int.emod_lt_of_pos
abbrev Ag4:=@decide_eq_true_iff
abbrev Ag5:=@List.mem_range
abbrev Ag6:=@List.nodup_nil
abbrev Ag7:=@List.append_nil
abbrev Ag8:=@List.length_range
abbrev Ag9:=@List.take_add_one
abbrev Ah0:=@wpAny_truthy_bool
abbrev Ah1:=@wpAny_newObj_type
abbrev Ah2:=@if_false
abbrev Ah3:=@PySem.W.kia_one
abbrev Ah4:=@List.replicate_one
abbrev Ah5:=@Int.emod_nonneg
abbrev Ah6:=@wpAny_call_entry
abbrev Ah7:=@beq_self_eq_true
abbrev Ah8:=@or_false
abbrev Ah9:=@PySem.mem_of_lookup
abbrev Ai0:=@List.any_cons
abbrev Ai1:=@Bool.false_and
abbrev Ai2:=@PySem.F.slot_list_append
abbrev Ai3:=@PySem.F.type_list_append
abbrev Ai4:=@wpAny_seqItems
abbrev Ai5:=@wpAny_field
abbrev Ai6:=@Nat.lt_irrefl
abbrev Ai7:=@PySem.F.plain_max_loop
abbrev Ai8:=@List.mem_filter
abbrev Ai9:=@List.getElem?_eq_none
abbrev Aj0:=@List.prefix_append
abbrev Aj1:=@Nat.sub_self
abbrev Aj2:=@wpAny_Call_Name_kw
abbrev Aj3:=@List.all_cons
abbrev Aj4:=@Bool.and_false
abbrev Aj5:=@List.getElem?_set_self
abbrev Aj6:=@Heap.get?_update_other
abbrev Aj7:=@wpAny_mono
abbrev Aj8:=@List.drop_eq_getElem_cons
abbrev Aj9:=@PyProof.Rows.slot_tuple_getitem
abbrev Ak0:=@Bool.eq_iff_iff
abbrev Ak1:=@List.length_nil
abbrev Ak2:=@List.dropLast_concat
abbrev Ak3:=@Bool.and_true
abbrev Ak4:=@wpAny_typeNameOfWhole_keyiter
abbrev Ak5:=@List.map_congr_left
abbrev Ak6:=@List.length_drop
abbrev Ak7:=@List.getElem_mem
abbrev Ak8:=@PyProof.Rows.callWith_type1
abbrev Ak9:=@wpAny_setField_rec
abbrev Al0:=@wpAny_passesOwn
abbrev Al1:=@if_true
abbrev Al2:=@Bool.not_true
abbrev Al3:=@wpAny_holding
abbrev Al4:=@List.nodup_append
abbrev Al5:=@List.take_zero
abbrev Al6:=@PySem.boot_len
abbrev Al7:=@Nat.ne_of_gt
abbrev Al8:=@Nat.lt_succ_self
abbrev Al9:=@Option.isSome_iff_exists
abbrev Am0:=@List.take_succ_eq_append_getElem
abbrev Am1:=@List.exists_of_findSome?_eq_some
abbrev Am2:=@wpAny_typeNameOf_keyiter
abbrev Am3:=@Array.length_toList
abbrev Am4:=@List.find?_cons
abbrev Am5:=@List.length_set
abbrev Am6:=@codeAny_builtin
abbrev Am7:=@Calls.callWith_builtin
abbrev Am8:=@wpAny_letGo
abbrev Am9:=@Nat.lt_succ_of_lt
abbrev An0:=@Heap.get?_update_self
abbrev An1:=@Bool.not_false
abbrev An2:=@List.idxOf_lt_length_of_mem
abbrev An3:=@List.cons_append
abbrev An4:=@List.all_eq_true
abbrev An5:=@Nat.not_lt
abbrev An6:=@List.mem_iff_getElem
abbrev An7:=@wpAny_rule
abbrev An8:=@Bool.true_and
abbrev An9:=@List.of_mem_zip
abbrev Ao0:=@PySem.F.args_tuple_add_2
abbrev Ao1:=@Nat.lt_of_le_of_lt
abbrev Ao2:=@List.getElem_idxOf
abbrev Ao3:=@wpAny_pyIter_tuple
abbrev Ao4:=@codeAny_mono
abbrev Ao5:=@decide_false
abbrev Ao6:=@wpAny_tryCatch
abbrev Ao7:=@PySem.F.entry_tuple_add
abbrev Ao8:=@List.flatMap_cons
abbrev Ao9:=@wpAny_pyIter_list
abbrev Ap0:=@wpAny_dictEntries
abbrev Ap1:=@Option.map_eq_some_iff
abbrev Ap2:=@PySem.F.slot_tuple_add
abbrev Ap3:=@PySem.F.entry_max_loop
abbrev Ap4:=@decide_true
abbrev Ap5:=@plainId_quiet
abbrev Ap6:=@Option.getD_some
abbrev Ap7:=@Nat.le_add_right
abbrev Ap8:=@List.any_eq_true
abbrev Ap9:=@List.mem_flatMap
abbrev Aq0:=@List.prefix_refl
abbrev Aq1:=@decide_eq_decide
abbrev Aq2:=@PySem.W.methodCall_KW
abbrev Aq3:=@PySem.F.slot_list_pop
abbrev Aq4:=@PySem.F.type_list_pop
abbrev Aq5:=@PyProof.Rows.callWith_builtin1
abbrev Aq6:=@Int.zero_add
abbrev Aq7:=@List.length_zip
abbrev Aq8:=@wpAny_specialOf
abbrev Aq9:=@wpAny_execs_nil
abbrev Ar0:=@wpAny_typeOf
abbrev Ar1:=@call_meets
abbrev Ar2:=@wpAny_updateSeq_pair
abbrev Ar3:=@List.filterMap_cons
abbrev Ar4:=@PySem.W.plainGet_of
abbrev Ar5:=@Nat.add_le_add_left
abbrev Ar6:=@List.getElem?_range
abbrev Ar7:=@List.drop_zero
abbrev Ar8:=@Option.none_or
abbrev Ar9:=@wpAny_setField
abbrev As0:=@eq_self
abbrev As1:=@Calls.spliced_cons
abbrev As2:=@PySem.W.callWith_K
abbrev As3:=@List.findIdx?_cons
abbrev As4:=@List.filter_append
abbrev As5:=@PySem.W.mg_of
abbrev As6:=@wpAny_onRaise
abbrev As7:=@wpAny_attempt
abbrev As8:=@PySem.W.kitx_dict
abbrev As9:=@Calls.spliced_nil
abbrev At0:=@Option.isSome_map
abbrev At1:=@List.append_assoc
abbrev At2:=@Array.getElem?_eq_getElem
abbrev At3:=@Nat.min_le_right
abbrev At4:=@Nat.min_self
abbrev At5:=@List.any_map
abbrev At6:=@PySem.F.slot_list_extend
abbrev At7:=@PySem.F.type_list_extend
abbrev At8:=@List.countP_cons
abbrev At9:=@PySem.F.slot_tuple_count
abbrev Au0:=@List.zipIdx_cons
abbrev Au1:=@wpAny_isInstance
abbrev Au2:=@noFill_tuple_add
abbrev Au3:=@PySem.F.slot_list_index
abbrev Au4:=@PySem.F.slot_list_count
abbrev Au5:=@List.not_all_eq_any_not
abbrev Au6:=@List.forIn_cons
abbrev Au7:=@List.countP_map
abbrev Au8:=@wpAny_dictEpoch
abbrev Au9:=@size_of_entries
abbrev Av0:=@wpAny_updateSeq
abbrev Av1:=@List.range_succ_eq_map
abbrev Av2:=@Nat.le_succ
abbrev Av3:=@PySem.W.cellsFrom_some
abbrev Av4:=@List.map_id
abbrev Av5:=@List.take_of_length_le
abbrev Av6:=@PySem.F.slot_dict_len
abbrev Av7:=@List.length_filter_le
abbrev Av8:=@Nat.mul_le_mul
abbrev Av9:=@Nat.add_assoc
abbrev Aw0:=@Bool.false_or
abbrev Aw1:=@List.all_map
abbrev Aw2:=@Nat.le_of_lt
abbrev Aw3:=@Nat.le_of_eq
abbrev Aw4:=@Nat.sub_zero
abbrev Aw5:=@Nat.succ_mul
abbrev Aa3:=@PySem.W.Frag
end
namespace L2
def bh0 (s:Stmt)(j:Nat):Stmt:=match s with
 | .ClassDef _ _ _ body _ _ _ _ _ _ _=>body.getD j (.Pass ⟨0,0,0,0⟩)
 |_=> .Pass ⟨0,0,0,0⟩
def bC0 (s:Stmt):Arguments:=match s with
 | .FunctionDef _ a _ _ _ _ _ _ _ _=>a
 |_=>{posonlyargs:=[],args:=[],vararg:=none,kwonlyargs:=[],kw_defaults:=[],kwarg:=none,defaults:=[]}
def br0 (s:Stmt):List Stmt:=match s with
 | .FunctionDef _ _ b _ _ _ _ _ _ _=>b
 |_=> []
def ad0 (s:Stmt):Scope:=match s with
 | .FunctionDef _ _ _ _ _ _ sc _ _ _=>sc
 |_=>{kind:=.function,names:=[],isGenerator:=false,isCoroutine:=false}
end L2
namespace Bed1
open PySem PySem.W PyProof.Rows L2
noncomputable def top (i:Nat):Stmt:=PySem.Challenge.pw_bedround_k07_whole_longest_or_for_ever.main.body.getD i (.Pass ⟨0,0,0,0⟩)
abbrev Kr (n:Nat):Value:=.ref n
abbrev Ki (n:Nat):Value:=.int (Int.ofNat n) 0
abbrev Ks (x:String)(t:Nat):Value:=.str (.ofString x) t
abbrev Kp (t:Nat):Value:=Ks "/claim/cut.py" t
abbrev Ke (P:Params)(x:String)(t:Nat)(v:Value):DictEntry:=⟨PyData.keyHash P (.ofString x),Ks x t,v⟩
abbrev Kt (l:Array Value):Obj:=⟨.type "tuple",none,.seq l 0,#[]⟩
abbrev Kc (l:Array Value):Obj:=⟨.type "code",none,.fields l,#[]⟩
abbrev Kg (x q:String)(t l n a e:Nat):Obj:=Kc #[Ks x t,Ks q (t+1),Kp (t+2),Ki l,Ki n,Ki 0,Ki 0,Ki 3,Kr a,.bool true,Ki 181,Kr (a+1),.none,Kr (a+2),Kr (a+3),Kr (a+4),Ki e,Ki l,Kp (e+1)]
abbrev Kh (x q:String)(t l n a e:Nat):Obj:=Kc #[Ks x t,Ks q (t+1),Kp (t+2),Ki l,Ki n,Ki 0,Ki 0,Ki 3,Kr a,.bool true,Ki 181,Kr (a+1),.none,.none,.none,Kr (a+2),Ki e,Ki l,Kp (e+1)]
abbrev Kd (l:Array DictEntry)(n:Nat):Obj:=⟨.type "dict",none,.dict l n,#[]⟩
abbrev Kf (x q:Str)(st:Stmt)(m:Value)(c:Nat):Obj:=⟨.type "function",none,.func (PySem.W.fnOf x q (bC0 st) (br0 st) (ad0 st) .none .none .none m none (Kr c) .none),#[]⟩
abbrev Kj (i j:Nat):Stmt:=bh0 (top i) j
abbrev Km1:Value:=Ks "__main__" 164
abbrev Km2:Value:=Ks "bedround.webs" 194
abbrev Km3:Value:=Ks "bedround.plans" 281
abbrev Km4:Value:=Ks "bedround.gardens" 440
abbrev Km5:Value:=Ks "law_bedround_k07_whole_longest_or_for_ever" 651
def KK:Params->PySem.W.Frag:=λP=>(nat_lit 2,⟨.none,none,(.dict #[] 0),#[]⟩)::
(nat_lit 3,Kd #[Ke P "__name__" 165 (Ks "law_bedround_k07_whole_longest_or_for_ever" 651),Ke P "__doc__" 166 .none,Ke P "__package__" 167 .none,Ke P "__loader__" 168 (.builtin "__main__.__loader__#opaque"),Ke P "__spec__" 169 .none,Ke P "__annotations__" 170 (Kr 6),Ke P "__builtins__" 171 (Kr 4),Ke P "__file__" 173 (Kp 172),Ke P "__cached__" 174 .none,Ke P "_wall" 193 (Kr 21),Ke P "Web" 280 (Kr 80),Ke P "Trail" 361 (Kr 141),Ke P "first_plan" 369 (Kr 152),Ke P "round_place" 377 (Kr 159),Ke P "plan_for" 385 (Kr 166),Ke P "longest" 394 (Kr 173),Ke P "endless" 403 (Kr 180),Ke P "BedError" 423 (Kr 190),Ke P "BadGarden" 439 (Kr 203),Ke P "MOST_BEDS" 443 (.int 3 442),Ke P "MOST_CROPS" 445 (.int 5 444),Ke P "MOST_TOP" 447 (.int 5 446),Ke P "MOST_CHANGE" 449 (.int 3 448),Ke P "MOST_HARVEST" 451 (.int 1000 450),Ke P "MOST_GAP" 453 (.int 3 452),Ke P "MOST_WANTED" 455 (.int 3 454),Ke P "is_within" 464 (Kr 212),Ke P "check_within" 474 (Kr 219),Ke P "check_name" 482 (Kr 226),Ke P "check_beds" 491 (Kr 233),Ke P "check_crop" 498 (Kr 240),Ke P "check_crops" 508 (Kr 247),Ke P "check_wants" 518 (Kr 254),Ke P "names_of" 524 (Kr 259),Ke P "numbers_of" 530 (Kr 264),Ke P "lengthened" 536 (Kr 269),Ke P "Garden" 650 (Kr 344),Ke P "_law_cell_at" 660 (Kr 355),Ke P "_law_draw" 668 (Kr 362),Ke P "_law_whole" 675 (Kr 369),Ke P "_law_crop" 689 (Kr 376),Ke P "_law_wants" 702 (Kr 383),Ke P "_law_garden" 708 (Kr 388),Ke P "_law_beds" 717 (Kr 395),Ke P "_law_handed" 723 (Kr 400),Ke P "_law_memory" 729 (Kr 405),Ke P "_law_lets" 740 (Kr 412),Ke P "_law_wanted" 746 (Kr 417),Ke P "_law_longer" 757 (Kr 424),Ke P "_law_may" 763 (Kr 429),Ke P "_law_behind" 775 (Kr 436),Ke P "_law_start" 781 (Kr 441),Ke P "_law_gain" 787 (Kr 446),Ke P "_law_states" 793 (Kr 451),Ke P "_law_gone" 803 (Kr 458),Ke P "_law_numbers" 809 (Kr 463),Ke P "_law_layers" 815 (Kr 468),Ke P "_law_round" 824 (Kr 475),Ke P "law" 830 (Kr 480)] 59)::
(nat_lit 15,Kt #[])::
(nat_lit 17,Kt #[Ks "k" 190])::
(nat_lit 18,Kt #[])::
(nat_lit 20,Kg "_wall" "_wall" 187 1 1 15 191)::
(nat_lit 21,Kf "_wall" "_wall" (top 0) Km1 20)::
(nat_lit 29,Kt #[])::
(nat_lit 31,Kt #[Ks "self" 211,Ks "garden" 212])::
(nat_lit 32,Kt #[])::
(nat_lit 34,Kg "__init__" "Web.__init__" 208 7 2 29 213)::
(nat_lit 35,Kf "__init__" "Web.__init__" (Kj 2 0) Km2 34)::
(nat_lit 36,Kt #[])::
(nat_lit 38,Kt #[Ks "self" 219,Ks "state" 220,Ks "came" 221])::
(nat_lit 39,Kt #[])::
(nat_lit 41,Kg "number_of" "Web.number_of" 216 15 3 36 222)::
(nat_lit 42,Kf "number_of" "Web.number_of" (Kj 2 1) Km2 41)::
(nat_lit 43,Kt #[])::
(nat_lit 45,Kt #[Ks "self" 228,Ks "number" 229])::
(nat_lit 46,Kt #[])::
(nat_lit 48,Kg "moves_of" "Web.moves_of" 225 22 2 43 230)::
(nat_lit 49,Kf "moves_of" "Web.moves_of" (Kj 2 2) Km2 48)::
(nat_lit 50,Kt #[])::
(nat_lit 52,Kt #[Ks "self" 236,Ks "number" 237,Ks "state" 238,Ks "moves" 239,Ks "planting" 240,Ks "later" 241])::
(nat_lit 53,Kt #[])::
(nat_lit 55,Kg "worked_out" "Web.worked_out" 233 27 2 50 242)::
(nat_lit 56,Kf "worked_out" "Web.worked_out" (Kj 2 3) Km2 55)::
(nat_lit 57,Kt #[])::
(nat_lit 59,Kt #[Ks "self" 248,Ks "first" 249])::
(nat_lit 60,Kt #[])::
(nat_lit 62,Kg "widen" "Web.widen" 245 35 2 57 250)::
(nat_lit 63,Kf "widen" "Web.widen" (Kj 2 4) Km2 62)::
(nat_lit 64,Kt #[])::
(nat_lit 66,Kt #[Ks "self" 256])::
(nat_lit 67,Kt #[])::
(nat_lit 69,Kg "widen_fully" "Web.widen_fully" 253 38 1 64 257)::
(nat_lit 70,Kf "widen_fully" "Web.widen_fully" (Kj 2 5) Km2 69)::
(nat_lit 71,Kt #[])::
(nat_lit 73,Kt #[Ks "self" 263,Ks "number" 264])::
(nat_lit 74,Kt #[])::
(nat_lit 76,Kg "way_to" "Web.way_to" 260 41 2 71 265)::
(nat_lit 77,Kf "way_to" "Web.way_to" (Kj 2 6) Km2 76)::
(nat_lit 78,Kt #[Ks "came" 268,Ks "garden" 269,Ks "moves" 270,Ks "numbers" 271,Ks "states" 272])::
(nat_lit 79,Kd #[Ke P "__module__" 203 (Ks "bedround.webs" 194),Ke P "__firstlineno__" 207 (.int 5 206),Ke P "__init__" 215 (Kr 35),Ke P "number_of" 224 (Kr 42),Ke P "moves_of" 232 (Kr 49),Ke P "worked_out" 244 (Kr 56),Ke P "widen" 252 (Kr 63),Ke P "widen_fully" 259 (Kr 70),Ke P "way_to" 267 (Kr 77),Ke P "__static_attributes__" 273 (Kr 78),Ke P "__dict__" 275 (Kr 81),Ke P "__weakref__" 277 (Kr 82),Ke P "__doc__" 278 .none] 4)::
(nat_lit 80,⟨(.type "type"),none,(.cls ⟨"Web",[(.type "object")],[(Kr 80),(.type "object")],79, "Web",true,[],[],false,none,false⟩),#[none,none,(some (Ks "Web" 196)),(some (Ks "Web" 204)),(some (.builtin "object.__new__")),(some (.bool true))]⟩)::
(nat_lit 81,⟨(.type "getset_descriptor"),none,(.fields #[Ks "__dict__" 274,Kr 80,(.builtin "function.__dict__"),(.builtin "function.__dict__#set")]),#[]⟩)::
(nat_lit 82,⟨(.type "getset_descriptor"),none,(.fields #[Ks "__weakref__" 276,Kr 80,(.builtin "ExceptionGroup.__weakref__"),.none]),#[]⟩)::
(nat_lit 92,Kt #[])::
(nat_lit 94,Kt #[Ks "self" 298,Ks "garden" 299])::
(nat_lit 95,Kt #[])::
(nat_lit 97,Kg "__init__" "Trail.__init__" 295 46 2 92 300)::
(nat_lit 98,Kf "__init__" "Trail.__init__" (Kj 4 0) Km3 97)::
(nat_lit 99,Kt #[])::
(nat_lit 101,Kt #[Ks "self" 306])::
(nat_lit 102,Kt #[])::
(nat_lit 104,Kg "begin" "Trail.begin" 303 51 1 99 307)::
(nat_lit 105,Kf "begin" "Trail.begin" (Kj 4 1) Km3 104)::
(nat_lit 106,Kt #[])::
(nat_lit 108,Kt #[Ks "self" 313])::
(nat_lit 109,Kt #[])::
(nat_lit 111,Kg "last" "Trail.last" 310 55 1 106 314)::
(nat_lit 112,Kf "last" "Trail.last" (Kj 4 2) Km3 111)::
(nat_lit 113,Kt #[])::
(nat_lit 115,Kt #[Ks "self" 320,Ks "many" 321])::
(nat_lit 116,Kt #[])::
(nat_lit 118,Kg "go_on" "Trail.go_on" 317 58 2 113 322)::
(nat_lit 119,Kf "go_on" "Trail.go_on" (Kj 4 3) Km3 118)::
(nat_lit 120,Kt #[])::
(nat_lit 122,Kt #[Ks "self" 328,Ks "many" 329,Ks "planting" 330,Ks "later" 331])::
(nat_lit 123,Kt #[])::
(nat_lit 125,Kg "step" "Trail.step" 325 65 2 120 332)::
(nat_lit 126,Kf "step" "Trail.step" (Kj 4 4) Km3 125)::
(nat_lit 127,Kt #[])::
(nat_lit 129,Kt #[Ks "self" 338,Ks "number" 339,Ks "many" 340])::
(nat_lit 130,Kt #[])::
(nat_lit 132,Kg "is_worth_trying" "Trail.is_worth_trying" 335 73 3 127 341)::
(nat_lit 133,Kf "is_worth_trying" "Trail.is_worth_trying" (Kj 4 5) Km3 132)::
(nat_lit 134,Kt #[])::
(nat_lit 137,Kh "turn_back" "Trail.turn_back" 344 78 1 134 347)::
(nat_lit 138,Kf "turn_back" "Trail.turn_back" (Kj 4 6) Km3 137)::
(nat_lit 139,Kt #[Ks "ends" 350,Ks "passed" 351,Ks "web" 352,Ks "years" 353])::
(nat_lit 140,Kd #[Ke P "__module__" 290 (Ks "bedround.plans" 281),Ke P "__firstlineno__" 294 (.int 44 293),Ke P "__init__" 302 (Kr 98),Ke P "begin" 309 (Kr 105),Ke P "last" 316 (Kr 112),Ke P "go_on" 324 (Kr 119),Ke P "step" 334 (Kr 126),Ke P "is_worth_trying" 343 (Kr 133),Ke P "turn_back" 349 (Kr 138),Ke P "__static_attributes__" 354 (Kr 139),Ke P "__dict__" 356 (Kr 142),Ke P "__weakref__" 358 (Kr 143),Ke P "__doc__" 359 .none] 4)::
(nat_lit 141,⟨(.type "type"),none,(.cls ⟨"Trail",[(.type "object")],[(Kr 141),(.type "object")],140, "Trail",true,[],[],false,none,false⟩),#[none,none,(some (Ks "Trail" 283)),(some (Ks "Trail" 291)),(some (.builtin "object.__new__")),(some (.bool true))]⟩)::
(nat_lit 142,⟨(.type "getset_descriptor"),none,(.fields #[Ks "__dict__" 355,Kr 141,(.builtin "function.__dict__"),(.builtin "function.__dict__#set")]),#[]⟩)::
(nat_lit 143,⟨(.type "getset_descriptor"),none,(.fields #[Ks "__weakref__" 357,Kr 141,(.builtin "ExceptionGroup.__weakref__"),.none]),#[]⟩)::
(nat_lit 146,Kt #[])::
(nat_lit 148,Kt #[Ks "trail" 365,Ks "many" 366])::
(nat_lit 149,Kt #[])::
(nat_lit 151,Kg "first_plan" "first_plan" 362 84 2 146 367)::
(nat_lit 152,Kf "first_plan" "first_plan" (top 5) Km3 151)::
(nat_lit 153,Kt #[])::
(nat_lit 155,Kt #[Ks "trail" 373,Ks "places" 374])::
(nat_lit 156,Kt #[])::
(nat_lit 158,Kg "round_place" "round_place" 370 90 1 153 375)::
(nat_lit 159,Kf "round_place" "round_place" (top 6) Km3 158)::
(nat_lit 160,Kt #[])::
(nat_lit 162,Kt #[Ks "garden" 381,Ks "many" 382])::
(nat_lit 163,Kt #[])::
(nat_lit 165,Kg "plan_for" "plan_for" 378 97 2 160 383)::
(nat_lit 166,Kf "plan_for" "plan_for" (top 7) Km3 165)::
(nat_lit 167,Kt #[])::
(nat_lit 169,Kt #[Ks "garden" 389,Ks "trail" 390,Ks "most" 391])::
(nat_lit 170,Kt #[])::
(nat_lit 172,Kg "longest" "longest" 386 101 1 167 392)::
(nat_lit 173,Kf "longest" "longest" (top 8) Km3 172)::
(nat_lit 174,Kt #[])::
(nat_lit 176,Kt #[Ks "garden" 398,Ks "trail" 399,Ks "place" 400])::
(nat_lit 177,Kt #[])::
(nat_lit 179,Kg "endless" "endless" 395 107 1 174 401)::
(nat_lit 180,Kf "endless" "endless" (top 9) Km3 179)::
(nat_lit 181,Kt #[(.type "ValueError")])::
(nat_lit 188,Kt #[])::
(nat_lit 189,Kd #[Ke P "__module__" 413 (Ks "bedround.errors" 404),Ke P "__firstlineno__" 417 (.int 114 416),Ke P "__static_attributes__" 418 (Kr 188),Ke P "__weakref__" 420 (Kr 191),Ke P "__doc__" 421 .none] 3)::
(nat_lit 190,⟨(.type "type"),none,(.cls ⟨"BedError",[(.type "ValueError")],[(Kr 190),(.type "ValueError"),(.type "Exception"),(.type "BaseException"),(.type "object")],189, "BedError",true,[],[(Kr 203)],false,none,false⟩),#[(some (Kr 181)),none,(some (Ks "BedError" 406)),(some (Ks "BedError" 414)),(some (.builtin "ValueError.__new__")),(some (.bool true))]⟩)::
(nat_lit 191,⟨(.type "getset_descriptor"),none,(.fields #[Ks "__weakref__" 419,Kr 190,(.builtin "ExceptionGroup.__weakref__"),.none]),#[]⟩)::
(nat_lit 194,Kt #[Kr 190])::
(nat_lit 201,Kt #[])::
(nat_lit 202,Kd #[Ke P "__module__" 431 (Ks "bedround.errors" 404),Ke P "__firstlineno__" 435 (.int 116 434),Ke P "__static_attributes__" 436 (Kr 201),Ke P "__doc__" 437 .none] 2)::
(nat_lit 203,⟨(.type "type"),none,(.cls ⟨"BadGarden",[(Kr 190)],[(Kr 203),(Kr 190),(.type "ValueError"),(.type "Exception"),(.type "BaseException"),(.type "object")],202, "BadGarden",true,[],[],false,none,false⟩),#[(some (Kr 194)),none,(some (Ks "BadGarden" 424)),(some (Ks "BadGarden" 432)),(some (.builtin "ValueError.__new__")),(some (.bool true))]⟩)::
(nat_lit 206,Kt #[])::
(nat_lit 208,Kt #[Ks "value" 459,Ks "least" 460,Ks "most" 461])::
(nat_lit 209,Kt #[])::
(nat_lit 211,Kg "is_within" "is_within" 456 126 3 206 462)::
(nat_lit 212,Kf "is_within" "is_within" (top 21) Km4 211)::
(nat_lit 213,Kt #[])::
(nat_lit 215,Kt #[Ks "value" 468,Ks "least" 469,Ks "most" 470,Ks "what" 471])::
(nat_lit 216,Kt #[])::
(nat_lit 218,Kg "check_within" "check_within" 465 130 4 213 472)::
(nat_lit 219,Kf "check_within" "check_within" (top 22) Km4 218)::
(nat_lit 220,Kt #[])::
(nat_lit 222,Kt #[Ks "name" 478,Ks "names" 479])::
(nat_lit 223,Kt #[])::
(nat_lit 225,Kg "check_name" "check_name" 475 133 2 220 480)::
(nat_lit 226,Kf "check_name" "check_name" (top 23) Km4 225)::
(nat_lit 227,Kt #[])::
(nat_lit 229,Kt #[Ks "soils" 486,Ks "top" 487,Ks "soil" 488])::
(nat_lit 230,Kt #[])::
(nat_lit 232,Kg "check_beds" "check_beds" 483 136 2 227 489)::
(nat_lit 233,Kf "check_beds" "check_beds" (top 24) Km4 232)::
(nat_lit 234,Kt #[])::
(nat_lit 236,Kt #[Ks "crop" 495])::
(nat_lit 237,Kt #[])::
(nat_lit 239,Kg "check_crop" "check_crop" 492 143 1 234 496)::
(nat_lit 240,Kf "check_crop" "check_crop" (top 25) Km4 239)::
(nat_lit 241,Kt #[])::
(nat_lit 243,Kt #[Ks "crops" 502,Ks "crop" 503,Ks "names" 504,Ks "name" 505])::
(nat_lit 244,Kt #[])::
(nat_lit 246,Kg "check_crops" "check_crops" 499 153 1 241 506)::
(nat_lit 247,Kf "check_crops" "check_crops" (top 26) Km4 246)::
(nat_lit 248,Kt #[])::
(nat_lit 250,Kt #[Ks "wants" 512,Ks "names" 513,Ks "name" 514,Ks "pair" 515])::
(nat_lit 251,Kt #[])::
(nat_lit 253,Kg "check_wants" "check_wants" 509 165 2 248 516)::
(nat_lit 254,Kf "check_wants" "check_wants" (top 27) Km4 253)::
(nat_lit 255,Kt #[])::
(nat_lit 258,Kh "names_of" "names_of" 519 174 1 255 522)::
(nat_lit 259,Kf "names_of" "names_of" (top 28) Km4 258)::
(nat_lit 260,Kt #[])::
(nat_lit 263,Kh "numbers_of" "numbers_of" 525 176 2 260 528)::
(nat_lit 264,Kf "numbers_of" "numbers_of" (top 29) Km4 263)::
(nat_lit 265,Kt #[])::
(nat_lit 268,Kh "lengthened" "lengthened" 531 178 2 265 534)::
(nat_lit 269,Kf "lengthened" "lengthened" (top 30) Km4 268)::
(nat_lit 277,Kt #[])::
(nat_lit 280,Kh "__init__" "Garden.__init__" 549 185 5 277 552)::
(nat_lit 281,Kf "__init__" "Garden.__init__" (Kj 31 0) Km4 280)::
(nat_lit 282,Kt #[])::
(nat_lit 285,Kh "start" "Garden.start" 555 199 1 282 558)::
(nat_lit 286,Kf "start" "Garden.start" (Kj 31 1) Km4 285)::
(nat_lit 287,Kt #[])::
(nat_lit 290,Kh "may" "Garden.may" 561 202 2 287 564)::
(nat_lit 291,Kf "may" "Garden.may" (Kj 31 2) Km4 290)::
(nat_lit 292,Kt #[])::
(nat_lit 294,Kt #[Ks "self" 570,Ks "state" 571,Ks "planting" 572])::
(nat_lit 295,Kt #[])::
(nat_lit 297,Kg "behind" "Garden.behind" 567 208 3 292 573)::
(nat_lit 298,Kf "behind" "Garden.behind" (Kj 31 3) Km4 297)::
(nat_lit 299,Kt #[])::
(nat_lit 302,Kh "harvest" "Garden.harvest" 576 211 2 299 579)::
(nat_lit 303,Kf "harvest" "Garden.harvest" (Kj 31 4) Km4 302)::
(nat_lit 304,Kt #[])::
(nat_lit 307,Kh "crops_for" "Garden.crops_for" 582 214 3 304 585)::
(nat_lit 308,Kf "crops_for" "Garden.crops_for" (Kj 31 5) Km4 307)::
(nat_lit 309,Kt #[])::
(nat_lit 311,Kt #[Ks "self" 591,Ks "soil" 592,Ks "stood" 593,Ks "crop" 594])::
(nat_lit 312,Kt #[])::
(nat_lit 314,Kg "lets" "Garden.lets" 588 217 4 309 595)::
(nat_lit 315,Kf "lets" "Garden.lets" (Kj 31 6) Km4 314)::
(nat_lit 316,Kt #[])::
(nat_lit 318,Kt #[Ks "self" 601,Ks "planting" 602,Ks "crop" 603,Ks "least" 604,Ks "most" 605])::
(nat_lit 319,Kt #[])::
(nat_lit 321,Kg "meets_wants" "Garden.meets_wants" 598 224 2 316 606)::
(nat_lit 322,Kf "meets_wants" "Garden.meets_wants" (Kj 31 7) Km4 321)::
(nat_lit 323,Kt #[])::
(nat_lit 325,Kt #[Ks "self" 612,Ks "state" 613,Ks "planting" 614])::
(nat_lit 326,Kt #[])::
(nat_lit 328,Kg "fits" "Garden.fits" 609 230 3 323 615)::
(nat_lit 329,Kf "fits" "Garden.fits" (Kj 31 8) Km4 328)::
(nat_lit 330,Kt #[])::
(nat_lit 333,Kh "beds_behind" "Garden.beds_behind" 618 233 3 330 621)::
(nat_lit 334,Kf "beds_behind" "Garden.beds_behind" (Kj 31 9) Km4 333)::
(nat_lit 335,Kt #[])::
(nat_lit 337,Kt #[Ks "self" 627,Ks "soil" 628,Ks "stood" 629,Ks "crop" 630,Ks "row" 631])::
(nat_lit 338,Kt #[])::
(nat_lit 340,Kg "bed_behind" "Garden.bed_behind" 624 236 4 335 632)::
(nat_lit 341,Kf "bed_behind" "Garden.bed_behind" (Kj 31 10) Km4 340)::
(nat_lit 342,Kt #[Ks "bars" 635,Ks "changes" 636,Ks "depth" 637,Ks "gaps" 638,Ks "harvests" 639,Ks "soils" 640,Ks "top" 641,Ks "wants" 642])::
(nat_lit 343,Kd #[Ke P "__module__" 544 (Ks "bedround.gardens" 440),Ke P "__firstlineno__" 548 (.int 183 547),Ke P "__init__" 554 (Kr 281),Ke P "start" 560 (Kr 286),Ke P "may" 566 (Kr 291),Ke P "behind" 575 (Kr 298),Ke P "harvest" 581 (Kr 303),Ke P "crops_for" 587 (Kr 308),Ke P "lets" 597 (Kr 315),Ke P "meets_wants" 608 (Kr 322),Ke P "fits" 617 (Kr 329),Ke P "beds_behind" 623 (Kr 334),Ke P "bed_behind" 634 (Kr 341),Ke P "__static_attributes__" 643 (Kr 342),Ke P "__dict__" 645 (Kr 345),Ke P "__weakref__" 647 (Kr 346),Ke P "__doc__" 648 .none] 4)::
(nat_lit 344,⟨(.type "type"),none,(.cls ⟨"Garden",[(.type "object")],[(Kr 344),(.type "object")],343, "Garden",true,[],[],false,none,false⟩),#[none,none,(some (Ks "Garden" 537)),(some (Ks "Garden" 545)),(some (.builtin "object.__new__")),(some (.bool true))]⟩)::
(nat_lit 345,⟨(.type "getset_descriptor"),none,(.fields #[Ks "__dict__" 644,Kr 344,(.builtin "function.__dict__"),(.builtin "function.__dict__#set")]),#[]⟩)::
(nat_lit 346,⟨(.type "getset_descriptor"),none,(.fields #[Ks "__weakref__" 646,Kr 344,(.builtin "ExceptionGroup.__weakref__"),.none]),#[]⟩)::
(nat_lit 349,Kt #[])::
(nat_lit 351,Kt #[Ks "script" 656,Ks "k" 657])::
(nat_lit 352,Kt #[])::
(nat_lit 354,Kg "_law_cell_at" "_law_cell_at" 653 240 2 349 658)::
(nat_lit 355,Kf "_law_cell_at" "_law_cell_at" (top 33) Km5 354)::
(nat_lit 356,Kt #[])::
(nat_lit 358,Kt #[Ks "script" 664,Ks "k" 665])::
(nat_lit 359,Kt #[])::
(nat_lit 361,Kg "_law_draw" "_law_draw" 661 244 2 356 666)::
(nat_lit 362,Kf "_law_draw" "_law_draw" (top 34) Km5 361)::
(nat_lit 363,Kt #[])::
(nat_lit 365,Kt #[Ks "found" 672])::
(nat_lit 366,Kt #[])::
(nat_lit 368,Kg "_law_whole" "_law_whole" 669 246 1 363 673)::
(nat_lit 369,Kf "_law_whole" "_law_whole" (top 35) Km5 368)::
(nat_lit 370,Kt #[])::
(nat_lit 372,Kt #[Ks "script" 679,Ks "k" 680,Ks "names" 681,Ks "gaps" 682,Ks "bars" 683,Ks "j" 684,Ks "harvest" 685,Ks "change" 686])::
(nat_lit 373,Kt #[])::
(nat_lit 375,Kg "_law_crop" "_law_crop" 676 248 4 370 687)::
(nat_lit 376,Kf "_law_crop" "_law_crop" (top 36) Km5 375)::
(nat_lit 377,Kt #[])::
(nat_lit 379,Kt #[Ks "script" 693,Ks "names" 694,Ks "beds" 695,Ks "wants" 696,Ks "k" 697,Ks "cell" 698,Ks "least" 699])::
(nat_lit 380,Kt #[])::
(nat_lit 382,Kg "_law_wants" "_law_wants" 690 256 3 377 700)::
(nat_lit 383,Kf "_law_wants" "_law_wants" (top 37) Km5 382)::
(nat_lit 384,Kt #[])::
(nat_lit 387,Kh "_law_garden" "_law_garden" 703 264 2 384 706)::
(nat_lit 388,Kf "_law_garden" "_law_garden" (top 38) Km5 387)::
(nat_lit 389,Kt #[])::
(nat_lit 391,Kt #[Ks "script" 712,Ks "most" 713,Ks "cell" 714])::
(nat_lit 392,Kt #[])::
(nat_lit 394,Kg "_law_beds" "_law_beds" 709 279 2 389 715)::
(nat_lit 395,Kf "_law_beds" "_law_beds" (top 39) Km5 394)::
(nat_lit 396,Kt #[])::
(nat_lit 399,Kh "_law_handed" "_law_handed" 718 286 1 396 721)::
(nat_lit 400,Kf "_law_handed" "_law_handed" (top 40) Km5 399)::
(nat_lit 401,Kt #[])::
(nat_lit 404,Kh "_law_memory" "_law_memory" 724 289 1 401 727)::
(nat_lit 405,Kf "_law_memory" "_law_memory" (top 41) Km5 404)::
(nat_lit 406,Kt #[])::
(nat_lit 408,Kt #[Ks "plot" 733,Ks "bed" 734,Ks "number" 735,Ks "crop" 736,Ks "k" 737])::
(nat_lit 409,Kt #[])::
(nat_lit 411,Kg "_law_lets" "_law_lets" 730 291 3 406 738)::
(nat_lit 412,Kf "_law_lets" "_law_lets" (top 42) Km5 411)::
(nat_lit 413,Kt #[])::
(nat_lit 416,Kh "_law_wanted" "_law_wanted" 741 299 2 413 744)::
(nat_lit 417,Kf "_law_wanted" "_law_wanted" (top 43) Km5 416)::
(nat_lit 418,Kt #[])::
(nat_lit 420,Kt #[Ks "rows" 750,Ks "numbers" 751,Ks "longer" 752,Ks "row" 753,Ks "number" 754])::
(nat_lit 421,Kt #[])::
(nat_lit 423,Kg "_law_longer" "_law_longer" 747 305 2 418 755)::
(nat_lit 424,Kf "_law_longer" "_law_longer" (top 44) Km5 423)::
(nat_lit 425,Kt #[])::
(nat_lit 428,Kh "_law_may" "_law_may" 758 311 2 425 761)::
(nat_lit 429,Kf "_law_may" "_law_may" (top 45) Km5 428)::
(nat_lit 430,Kt #[])::
(nat_lit 432,Kt #[Ks "plot" 767,Ks "state" 768,Ks "planting" 769,Ks "beds" 770,Ks "k" 771,Ks "soil" 772])::
(nat_lit 433,Kt #[])::
(nat_lit 435,Kg "_law_behind" "_law_behind" 764 316 3 430 773)::
(nat_lit 436,Kf "_law_behind" "_law_behind" (top 46) Km5 435)::
(nat_lit 437,Kt #[])::
(nat_lit 440,Kh "_law_start" "_law_start" 776 322 1 437 779)::
(nat_lit 441,Kf "_law_start" "_law_start" (top 47) Km5 440)::
(nat_lit 447,Kt #[])::
(nat_lit 450,Kh "_law_states" "_law_states" 788 326 1 447 791)::
(nat_lit 451,Kf "_law_states" "_law_states" (top 49) Km5 450)::
(nat_lit 452,Kt #[])::
(nat_lit 454,Kt #[Ks "plot" 797,Ks "state" 798,Ks "plan" 799,Ks "planting" 800])::
(nat_lit 455,Kt #[])::
(nat_lit 457,Kg "_law_gone" "_law_gone" 794 335 3 452 801)::
(nat_lit 458,Kf "_law_gone" "_law_gone" (top 50) Km5 457)::
(nat_lit 459,Kt #[])::
(nat_lit 462,Kh "_law_numbers" "_law_numbers" 804 341 1 459 807)::
(nat_lit 463,Kf "_law_numbers" "_law_numbers" (top 51) Km5 462)::
(nat_lit 464,Kt #[])::
(nat_lit 467,Kh "_law_layers" "_law_layers" 810 348 2 464 813)::
(nat_lit 468,Kf "_law_layers" "_law_layers" (top 52) Km5 467)::
(nat_lit 469,Kt #[])::
(nat_lit 471,Kt #[Ks "plot" 819,Ks "told" 820,Ks "state" 821])::
(nat_lit 472,Kt #[])::
(nat_lit 474,Kg "_law_round" "_law_round" 816 359 2 469 822)::
(nat_lit 475,Kf "_law_round" "_law_round" (top 53) Km5 474)::
(nat_lit 476,Kt #[])::
(nat_lit 479,Kh "law" "law" 825 366 1 476 828)::
(nat_lit 480,Kf "law" "law" (top 54) Km5 479)::[]
noncomputable def KA:List Nat:=[2,3,15,17,18,20,21,29,31,32,34,35,36,38,39,41,42,43,45,46,48,49,50,52,53,55,56,57,59,60,62,63,64,66,67,69,70,71,73,74,76,77,78,79,80,81,82,92,94,95,97,98,99,101,102,104,105,106,108,109,111,112,113,115,116,118,119,120,122,123,125,126,127,129,130,132,133,134,137,138,139,140,141,142,143,146,148,149,151,152,153,155,156,158,159,160,162,163,165,166,167,169,170,172,173,174,176,177,179,180,181,188,189,190,191,194,201,202,203,206,208,209,211,212,213,215,216,218,219,220,222,223,225,226,227,229,230,232,233,234,236,237,239,240,241,243,244,246,247,248,250,251,253,254,255,258,259,260,263,264,265,268,269,277,280,281,282,285,286,287,290,291,292,294,295,297,298,299,302,303,304,307,308,309,311,312,314,315,316,318,319,321,322,323,325,326,328,329,330,333,334,335,337,338,340,341,342,343,344,345,346,349,351,352,354,355,356,358,359,361,362,363,365,366,368,369,370,372,373,375,376,377,379,380,382,383,384,387,388,389,391,392,394,395,396,399,400,401,404,405,406,408,409,411,412,413,416,417,418,420,421,423,424,425,428,429,430,432,433,435,436,437,440,441,447,450,451,452,454,455,457,458,459,462,463,464,467,468,469,471,472,474,475,476,479,480]
theorem KE (P:Params):KA=(KK P).map (·.1):=by kernel_rfl
def qv:Program:={PySem.Challenge.pw_bedround_k07_whole_longest_or_for_ever with main:={PySem.Challenge.pw_bedround_k07_whole_longest_or_for_ever.main with body:=[top 0,top 2,top 4,top 5,top 6,top 7,top 8,top 9,top 11,top 12,top 14,top 15,top 16,top 17,top 18,top 19,top 20,top 21,top 22,top 23,top 24,top 25,top 26,top 27,top 28,top 29,top 30,top 31,top 33,top 34,top 35,top 36,top 37,top 38,top 39,top 40,top 41,top 42,top 43,top 44,top 45,top 46,top 47,top 48,top 49,top 50,top 51,top 52,top 53,top 54]}}
def goT (p:Program)(w:World):Nat->SharedT->Thread->Option SharedT
 |0,_,_=>none
 |n+1,s,t=>match through t with
  |true=>some s
  |false=>match stepOk 11 (some (.ref 6)) t with
   |false=>none
   |true=>match stepT (denote treeTable) p w s t with
    |none=>none
    |some (a,b)=>goT p w n a b
theorem mZ0 {p:Program}{w:World}:∀{n:Nat} {s r:SharedT} {t:Thread},goT p w n s t=some r->topRun treeTable p w 11 (some (.ref 6)) n s.abs t=some r.abs
 |0,_,_,_,h=>nomatch h
 |n+1,s,r,t,h=>by
  unfold goT at h
  unfold topRun
  cases h1:through t with
  |true=>rw [h1] at h; cases h; rfl
  |false=>
   cases h2:stepOk 11 (some (.ref 6)) t with
   |false=>rw [h1,h2] at h; cases h
   |true=>
    cases h3:stepT (denote treeTable) p w s t with
    |none=>rw [h1,h2,h3] at h; cases h
    |some x=>rw [h1,h2,h3] at h; dsimp only; rw [stepT_spec h3]; exact mZ0 h
def alt:List Obj->List Obj
 |a::_::r=>a::alt r
 |l=>l
def bt:Nat->List Obj->BT
 |k+1,x::r=> .node x (bt k (alt r)) (bt k (alt (r.drop 1)))
 |_,_=> .nil
def rT (p:Program)(N:Nat)(w:World)(os:OsState):Option SharedT:=goT p w N ⟨bt 5 (boot_heap w.params).objs.toList,11,(boot_heap w.params).life,Array.mk [],boot_drawn,boot_toks,os⟩ (topStub p)
theorem bt_eq (P:Params):boot_heap P=absHeap (bt 5 (boot_heap P).objs.toList) 11 (boot_heap P).life:=by kernel_rfl
theorem bt_at (P:Params):((boot_heap P).isNs mainGlobals,(boot_heap P).objs.size,(boot_heap P).nsMap mainGlobals "__annotations__")=(true,11,some (.ref 6)):=by kernel_rfl
theorem lb {p q:Program}{loose:List Str}{Xt:Shared->Bool}{α:Type}{Yf:Shared->α}{Ya:World->α}{N:Nat}(e:opening p=plainProg p.main.scope.names)(hN:Nat.ble 600 N=true)(f:∀s,fenceModules? p s=some s)
  (h0:∀w os,(rT p N w os).map (λs=>(staticsOk (importedModules p.main.body) (boot_heap w.params) s.abs.heap && namesBound p s.abs.heap && gensDone s.abs && laidKept (boot_heap w.params) s.abs.heap))=some true)
  (h1:∀w os,(rT p N w os).map (λs=>(openSeen q loose (importedModules p.main.body) Xt true s.abs).1)=some (openGood q loose).1)
  (h2:∀w os,(rT p N w os).map (λs=>(openSeen q loose (importedModules p.main.body) Xt true s.abs).2)=some (openGood q loose).2)
  (h3:∀w os,(rT p N w os).map (λs=>Yf s.abs)=some (Ya w)):LeftO p q loose Xt Yf Ya N:=λw=>by
 obtain⟨⟨h,gs,d,k,os⟩,e1,e2⟩:=Ap1.mp (boot_open e hN f w)
 obtain⟨rfl,rfl,rfl,rfl⟩:h=boot_heap w.params/\gs=Array.mk []/\d=boot_drawn/\k=boot_toks:=by simpa using e2
 obtain⟨s,r,g0⟩:=Ap1.mp (h0 w os)
 have g1:=h1 w os
 have g2:=h2 w os
 have g3:=h3 w os
 rw [r] at g1 g2 g3
 obtain⟨z1,z2⟩:=Prod.mk.inj (bt_at w.params)
 obtain⟨z2,z3⟩:=Prod.mk.inj z2
 have t:=mZ0 r
 have t:topRun treeTable p w 11 (some (.ref 6)) N ⟨boot_heap w.params,Array.mk [],boot_drawn,boot_toks,os⟩ (topStub p)=some s.abs:=by
  conv=>lhs; rw [bt_eq]
  exact t
 have t:topFrom treeTable p w N ⟨boot_heap w.params,Array.mk [],boot_drawn,boot_toks,os⟩=some s.abs:=by
  unfold topFrom
  dsimp only
  rw [z1,z2,z3,t]
  show (match staticsOk (importedModules p.main.body) (boot_heap w.params) s.abs.heap && namesBound p s.abs.heap && gensDone s.abs && laidKept (boot_heap w.params) s.abs.heap with|true=>_|false=>_)=_
  rw [g0]
 unfold openEnds
 rw [e1]
 show (topFrom treeTable p w N _).map _=_
 rw [t]
 exact congrArg some (Prod.ext (Prod.ext (Option.some.inj g1) (Option.some.inj g2)) (Option.some.inj g3))
abbrev Rw:=PySem.Challenge.rw_bedround_k07_whole_longest_or_for_ever
abbrev Pg:Program:=Rw.row.prog
theorem HS:PySem.W.OpenLaw.wellSaid Rw=true:=by
 kernel_rfl
def hlX (s:Shared):Bool:=PySem.W.xlAt qv [] s && PySem.W.recOk (RowW.records Rw.row.toRowW) s
theorem HL0 (w:World)(os:OsState):(rT Pg 6114 w os).map (λs=>(staticsOk (importedModules Pg.main.body) (boot_heap w.params) s.abs.heap && namesBound Pg s.abs.heap && gensDone s.abs && laidKept (boot_heap w.params) s.abs.heap))=some true:=by
 kernel_rfl
theorem HL1 (w:World)(os:OsState):(rT Pg 6114 w os).map (λs=>(openSeen qv [] (importedModules Pg.main.body) hlX true s.abs).1)=some (openGood qv []).1:=by
 kernel_rfl
theorem HL2 (w:World)(os:OsState):(rT Pg 6114 w os).map (λs=>(openSeen qv [] (importedModules Pg.main.body) hlX true s.abs).2)=some (openGood qv []).2:=by
 kernel_rfl
theorem HL3 (w:World)(os:OsState):(rT Pg 6114 w os).map (λs=>PySem.W.Hook.obs (PySem.W.kHook KK KA KE) s.abs)=some (PySem.W.Hook.val (PySem.W.kHook KK KA KE) w):=by
 kernel_rfl
theorem HL:PySem.W.LeftO Pg qv [] (λs=>PySem.W.xlAt qv [] s && PySem.W.recOk (RowW.records Rw.row.toRowW) s) (PySem.W.Hook.obs (PySem.W.kHook KK KA KE)) (PySem.W.Hook.val (PySem.W.kHook KK KA KE)) 6114:=by
 refine lb (by rfl) (by rfl) (λs=>by rfl) HL0 HL1 HL2 HL3
end Bed1
namespace L2
abbrev Key:=Sum Int Str
def kW0:Key->Value->Bool
 | .inl k,v=>Value.isInt k v
 | .inr x,v=>Value.isStrOf x v
def keyH (w:World):Key->Int
 | .inl k=>hashInt k
 | .inr x=>hashStr w x
theorem aX0:∀{k:Key} {v:Value},kW0 k v=true->(∃i t,k=Sum.inl i/\v=Value.int i t)\/ (∃x t,k=Sum.inr x/\v=Value.str x t)
 | .inl i,v,h=>by
  obtain⟨t,e⟩:=Value.isInt_shape (k:=i) (v:=v) h
  exact .inl ⟨i,t,rfl,e⟩
 | .inr x,v,h=>by
  obtain⟨t,e⟩:=Value.isStrOf_shape (x:=x) (v:=v) h
  exact .inr ⟨x,t,rfl,e⟩
theorem mU0 (i:Int)(t:Tok):kW0 (.inl i) (.int i t)=true:=by simp [kW0,Value.isInt]
theorem mH0 (x:Str)(t:Tok):kW0 (.inr x) (.str x t)=true:=by simp [kW0,Value.isStrOf]
theorem sg0 (a b:Int):decide ((Sum.inl a:Key)=Sum.inl b)=(a==b):=by
 by_cases e:a=b
 ·subst e; simp
 ·have h:¬(Sum.inl a:Key)=Sum.inl b:=λq=>e (Sum.inl.inj q)
  rw [Ad3 h]
  exact(beq_eq_false_iff_ne.mpr e).symm
theorem oR0 (a b:Str):decide ((Sum.inr a:Key)=Sum.inr b)=decide (a=b):=by
 by_cases e:a=b
 ·subst e; simp
 ·have h:¬(Sum.inr a:Key)=Sum.inr b:=λq=>e (Sum.inr.inj q)
  rw [Ad3 h,Ad3 e]
theorem rB0 (a:Int)(b:Str):decide ((Sum.inl a:Key)=Sum.inr b)=false:=Ad3 (λq=>nomatch q)
theorem rm0 (a:Str)(b:Int):decide ((Sum.inr a:Key)=Sum.inl b)=false:=Ad3 (λq=>nomatch q)
def aO0 (prog:Program)(w:World):PySem.KeyKind prog w Key where
 is:=kW0
 hash:=keyH w
 inj:=λv a b ha hb=>by
  rcases aX0 ha with⟨i,t,rfl,rfl⟩|⟨x,t,rfl,rfl⟩
  ·rcases aX0 hb with⟨j,u,rfl,e⟩|⟨y,u,rfl,e⟩
   ·injection e with e1 _; rw [e1]
   ·exact nomatch e
  ·rcases aX0 hb with⟨j,u,rfl,e⟩|⟨y,u,rfl,e⟩
   ·exact nomatch e
   ·injection e with e1 _; rw [e1]
 byValue:=λk v h=>by
  rcases aX0 h with⟨i,t,rfl,rfl⟩|⟨x,t,rfl,rfl⟩<;>rfl
 pyHash:=λhv h=>by
  rcases aX0 hv with⟨i,t,rfl,rfl⟩|⟨x,t,rfl,rfl⟩
  ·exact wpAny_pyHash_int h
  ·exact wpAny_pyHash_str h
 eqBool:=λhu hv h=>by
  rcases aX0 hu with⟨i,t,rfl,rfl⟩|⟨x,t,rfl,rfl⟩
  ·rcases aX0 hv with⟨j,u,rfl,rfl⟩|⟨y,u,rfl,rfl⟩
   ·rw [sg0] at h; exact wpAny_eqBool_int h
   ·rw [rB0] at h; exact SeqAt.EqAt.int_str i t y u _ _ _ _ h
  ·rcases aX0 hv with⟨j,u,rfl,rfl⟩|⟨y,u,rfl,rfl⟩
   ·rw [rm0] at h; exact SeqAt.EqAt.str_int x t j u _ _ _ _ h
   ·rw [oR0] at h; exact wpAny_eqBool_str h
 «strs»:=λk x t v h=>by
  rcases aX0 h with⟨i,u,rfl,e⟩|⟨y,u,rfl,e⟩
  ·exact nomatch e
  ·injection e with e1 _
   subst e1
   cases v<;>rfl
abbrev SK:=List (Int × List Int)
section
variable {prog:Program}{w:World}{A:Around}{s:Shared}
def TupOf (h:Heap)(R:List Value->Prop)(v:Value):Prop:=∃a l,v=.ref a/\h.IsTuple a l/\R l.toList
def isInt (j:Int)(v:Value):Prop:=∃t,v=.int j t
def isInts (h:Heap)(js:List Int)(v:Value):Prop:=TupOf h (Paired isInt js) v
def isBed (h:Heap)(b:Int × List Int)(v:Value):Prop:=TupOf h (λl=>∃x y,l=[x,y]/\isInt b.1 x/\isInts h b.2 y) v
def isSK (h:Heap)(k:SK)(v:Value):Prop:=TupOf h (Paired (isBed h) k) v
theorem TupOf.inj {h:Heap}{R S:List Value->Prop}{v:Value}(x:TupOf h R v)(y:TupOf h S v):∃l,R l/\S l:=by
 obtain⟨a,l,rfl,⟨o,h1,_,n,h2⟩,r⟩:=x
 obtain⟨b,m,e,⟨o',h1',_,n',h2'⟩,r'⟩:=y
 cases e
 rw [h1] at h1'; cases h1'
 rw [h2] at h2'; cases h2'
 exact⟨_,r,r'⟩
theorem TupOf.imp {h h':Heap}{R S:List Value->Prop}(x:TupOf h R v)(k:∀a o l n,h.get? a=some o->o.data=.seq l n->h'.get? a=some o)(i:∀l,R l->S l):TupOf h' S v:=by
 obtain⟨a,l,e,⟨o,h1,h2,n,h3⟩,r⟩:=x
 exact⟨a,l,e,⟨o,k a o l n h1 h3,h2,n,h3⟩,i _ r⟩
theorem Paired.inj2 {α β:Type}{R:α->β->Prop}(hR:∀a b c,R a c->R b c->a=b):∀{x y:List α} {l:List β},Paired R x l->Paired R y l->x=y
 |_,_,_,.nil,.nil=>rfl
 |_,_,_,.cons h t,.cons h' t'=>by rw [hR _ _ _ h h',Paired.inj2 hR t t']
theorem Paired.map2 {α β:Type}{R S:α->β->Prop}(f:∀a b,R a b->S a b):∀{x:List α} {y:List β},Paired R x y->Paired S x y
 |_,_,.nil=> .nil
 |_,_,.cons h t=> .cons (f _ _ h) (Paired.map2 f t)
theorem Paired.get1 {α β:Type}{R:α->β->Prop}:∀{x:List α} {l:List β} {i:Nat} {c:β},Paired R x l->l[i]?=some c->∃p,x[i]?=some p/\R p c
 |_,_,_,_,.nil,e=>by simp at e
 |_,_,0,_,.cons h _,e=>by simp at e; subst e; exact⟨_,rfl,h⟩
 |_,_,i+1,c,.cons _ r,e=>by
  obtain⟨p,h1,h2⟩:=Paired.get1 (i:=i) (c:=c) r (by simpa using e)
  exact⟨p,by simpa using h1,h2⟩
theorem isInt.inj {a b:Int}{v:Value}(x:isInt a v)(y:isInt b v):a=b:=by
 obtain⟨t,rfl⟩:=x
 obtain⟨u,e⟩:=y
 cases e; rfl
theorem isInts.inj {h:Heap}{a b:List Int}{v:Value}(x:isInts h a v)(y:isInts h b v):a=b:=by
 obtain⟨l,r,r'⟩:=TupOf.inj x y
 exact Paired.inj2 (R:=isInt) (λ_ _ _ x y=>isInt.inj x y) r r'
theorem isBed.inj {h:Heap}{a b:Int × List Int}{v:Value}(x:isBed h a v)(y:isBed h b v):a=b:=by
 obtain⟨l,⟨p,q,rfl,h1,h2⟩,p',q',e,h1',h2'⟩:=TupOf.inj x y
 cases e
 obtain⟨a1,a2⟩:=a
 obtain⟨b1,b2⟩:=b
 rw [show a1=b1 from h1.inj h1',show a2=b2 from isInts.inj h2 h2']
theorem isSK.inj {h:Heap}{a b:SK}{v:Value}(x:isSK h a v)(y:isSK h b v):a=b:=by
 obtain⟨l,r,r'⟩:=TupOf.inj x y
 exact Paired.inj2 (R:=isBed h) (λ_ _ _ x y=>isBed.inj x y) r r'
theorem isSK.keeps {h h':Heap}(x:isSK h k v)(z:∀a o l n,h.get? a=some o->o.data=.seq l n->h'.get? a=some o):isSK h' k v:=
 TupOf.imp x z λ_ r=>Paired.map2 (λ_ _ b=>TupOf.imp b z λ_ ⟨p,q,e,h1,h2⟩=>⟨p,q,e,h1,TupOf.imp h2 z λ_ r=>r⟩) r
def ek0 (prog:Program)(w:World)(A:Around)(s:Shared)(v:Value)(z:Int × Nat):Prop:=
 ∀(t:Nat) (E:Value->Shared->Prop) (Q:Int->Shared->Prop),Q z.1 {s with toks:=t+z.2}->wpAny (model prog w) A (pyHash v) Q E {s with toks:=t}
def li0 (zs:List (Int × Nat)):Int × Nat:=(reduceHash (Builtin.Tuple.tupleHashOf (zs.map (·.1))),(zs.map (·.2)).sum+1)
theorem eb0 (hu:A.units<cLine)(ha:s.heap.IsTuple a l)(r:Paired (λz v=>ek0 prog w A.in1 s v z) zs l.toList):ek0 prog w A s (.ref a) (li0 zs):=by
 obtain⟨o,h1,h2,n,h3⟩:=ha
 intro t E Q h
 have hT:({s with toks:=t}:Shared).TypeIs (.ref a) "tuple" :=⟨o,h1,h2⟩
 unfold pyHash
 first|unfold pyHashByItsType|skip
 first|refine Aa0 (wpAny_cRoomFor_or (.inr hu) ?_)|skip
 refine Aa0 (Aq8 hT F.slot_tuple_hash.lookup ?_)
 show wpAny _ _ (if(some (Value.builtin "tuple.__hash__")==some Value.none)=true then _ else _) _ _ _
 rw [if_neg (by rw [beq_builtin_none]; exact Ab4)]
 refine Aa0 (Aq8 hT F.slot_tuple_hash.lookup ?_)
 show wpAny _ _ (callSpecialIfBoundUnlessNone? (.ref a) "__hash__" _>>=_) _ _ _
 refine Aa0 (wpAny_callSpecialIfBoundUnlessNone?_slot hT F.slot_tuple_hash (Ah6 F.slot_tuple_hash hT F.entry_tuple_hash ?_ (F.args_tuple_hash_1 _)))
 show wpAny _ _ (Builtin.Tuple.tupleItemsOf (.ref a)>>=_) _ _ _
 refine Aa0 (wpAny_tupleItemsOf h1 h3 (Aa0 ?_))
 rw [<- Array.forIn_toList]
 refine wpAny_forIn_list _
  (λmore (b:Array Int) s'=>∃p q,zs=p++q/\Paired (λz v=>ek0 prog w A.in1 s v z) q more/\b.toList=p.map (·.1)/\s'={s with toks:=t+(p.map (·.2)).sum})
  _ ?_ ?_ _ _ ⟨[],zs,rfl,r,rfl,rfl⟩
 ·rintro x more b s' ⟨p,q,rfl,hl,hb,rfl⟩
  cases hl with
  | @cons z _ q' _ hz hl'=>
   refine Aa0 (hz _ _ _ ?_)
   have fin:∃p' q'',p++z::q'=p'++q''/\Paired (λz v=>ek0 prog w A.in1 s v z) q'' more/\(b.push z.1).toList=p'.map (·.1)/\({s with toks:=t+(p.map (·.2)).sum+z.2}:Shared)={s with toks:=t+(p'.map (·.2)).sum}:=
    ⟨p++ [z],q',by simp,hl',by simp [hb],by simp [Av9]⟩
   first
    |exact Aa8 fin
    |exact Aa0 (Aa8 (Aa8 fin))
 ·rintro b s' ⟨p,q,rfl,hl,hb,rfl⟩
  cases hl
  rw [Ag7] at h
  show wpAny _ _ (retInt (Builtin.Tuple.tupleHashOf b.toList)) _ _ _
  rw [hb]
  refine wpAny_ret_mkInt ?_
  show wpAny _ _ (if(decide (-(2:Int)^63<=Builtin.Tuple.tupleHashOf (p.map (·.1))) && decide (Builtin.Tuple.tupleHashOf (p.map (·.1))<2^63))=true then _ else _) _ _ _
  unfold li0 reduceHash at h
  by_cases hr:(decide (-(2:Int)^63<=Builtin.Tuple.tupleHashOf (p.map (·.1))) && decide (Builtin.Tuple.tupleHashOf (p.map (·.1))<2^63))=true
  ·rw [if_pos hr]
   simp only [if_pos hr] at h
   exact Aa8 (by simpa [Av9] using h)
  ·rw [if_neg hr]
   simp only [if_neg hr] at h
   exact Aa0 (An7 (Aa8 (by simpa [Av9] using h)))
def oC0 (j:Int):Int × Nat:=(hashInt j,1)
def oW0 (js:List Int):Int × Nat:=li0 (js.map oC0)
def pn0 (b:Int × List Int):Int × Nat:=li0 [oC0 b.1,oW0 b.2]
def qB0 (k:SK):Int × Nat:=li0 (k.map pn0)
theorem isInt.hash (x:isInt j v):ek0 prog w A s v (oC0 j):=by
 obtain⟨t,rfl⟩:=x
 exact λt E Q h=>wpAny_pyHash_int (s:={s with toks:=t}) h
theorem Paired.mapL {α β γ:Type}{R:α->γ->Prop}{S:β->γ->Prop}(f:α->β)(h:∀a c,R a c->S (f a) c):∀{x:List α} {z:List γ},Paired R x z->Paired S (x.map f) z
 |_,_,.nil=> .nil
 |_,_,.cons p t=> .cons (h _ _ p) (Paired.mapL f h t)
theorem isInts.hash (hu:A.units<cLine)(x:isInts s.heap js v):ek0 prog w A s v (oW0 js):=by
 obtain⟨a,l,rfl,h1,r⟩:=x
 exact eb0 hu h1 (Paired.mapL oC0 (λ_ _=>isInt.hash) r)
theorem isBed.hash (hu:A.units+1<cLine)(x:isBed s.heap b v):ek0 prog w A s v (pn0 b):=by
 obtain⟨a,l,rfl,h1,p,q,e,r1,r2⟩:=x
 refine eb0 (by omega) h1 ?_
 rw [e]
 exact .cons r1.hash (.cons (r2.hash hu) .nil)
theorem isSK.hash (hu:A.units+2<cLine)(x:isSK s.heap k v):ek0 prog w A s v (qB0 k):=by
 obtain⟨a,l,rfl,h1,r⟩:=x
 exact eb0 (by omega) h1 (Paired.mapL pn0 (λ_ _=>isBed.hash (by show A.units+1+1<_; omega)) r)
theorem my0 {a b:Addr}{l m:Array Value}{α:Type} [DecidableEq α]{R:α->Value->Prop}(hu:A.units<cLine)(h1:s.heap.IsTuple a l)(h2:s.heap.IsTuple b m){x y:List α}(r1:Paired R x l.toList)(r2:Paired R y m.toList)(same:a=b->x=y)
  (he:∀p q u v,R p u->R q v->SeqAt.EqAt A.in1 s u v (decide (p=q))):SeqAt.EqAt A s (.ref a) (.ref b) (decide (x=y)):=by
 by_cases hab:a=b
 ·rw [Ad9 (same hab),hab]
  exact SeqAt.EqAt.same _
 have key:∀{x y:List α} {l m:List Value},Paired R x l->Paired R y m->((List.range (min l.length m.length)).all (λj=>match x[j]?,y[j]? with|some p,some q=>decide (p=q)|_,_=>false) && l.length==m.length)=decide (x=y):=by
  intro x y l m r1
  induction r1 generalizing y m with
  |nil=>intro r2; cases r2<;>simp
  |cons h t ih=>
   intro r2
   cases r2 with
   |nil=>simp
   |cons h' t'=>
    rw [Ac4,Ac4,Nat.succ_min_succ,Av1,Aj3,Aw1]
    have:=ih t'
    simp only [Af4,Function.comp_def,Nat.succ_eq_add_one,Ae9,Bool.and_assoc]
    have e1:∀i j:Nat,(i+1==j+1)=(i==j):=λi j=>by simp
    rw [e1,this]
    simp
 have e:=SeqAt.RcAt.tuples (A:=A) (s:=s) (e:=λj=>match x[j]?,y[j]? with|some p,some q=>decide (p=q)|_,_=>false) h1 h2 hu λj g1 g2=>by
  obtain⟨p,hp,rp⟩:=Paired.get1 r1 (i:=j) (c:=l[j]) (by simp [g1])
  obtain⟨q,hq,rq⟩:=Paired.get1 r2 (i:=j) (c:=m[j]) (by simp [g2])
  simp only [hp,hq]
  exact he _ _ _ _ rp rq
 have k:=key r1 r2
 simp only [Am3] at k
 rw [k] at e
 exact SeqAt.EqAt.of_refs hab e
theorem isInt.eqAt (x:isInt i u)(y:isInt j v):SeqAt.EqAt A s u v (decide (i=j)):=by
 obtain⟨t,rfl⟩:=x
 obtain⟨t',rfl⟩:=y
 have e:=SeqAt.EqAt.int_int (A:=A) (s:=s) i t j t'
 rw [show (i==j)=decide (i=j) from by by_cases h:i=j<;>simp [h]] at e
 exact e
theorem isInts.eqAt (hu:A.units<cLine)(x:isInts s.heap i u)(y:isInts s.heap j v):SeqAt.EqAt A s u v (decide (i=j)):=by
 obtain⟨a,l,rfl,h1,r1⟩:=id x
 obtain⟨b,m,rfl,h2,r2⟩:=id y
 exact my0 hu h1 h2 r1 r2 (λe=>by subst e; exact x.inj y) λp q u v=>isInt.eqAt
theorem isBed.eqAt (hu:A.units+1<cLine)(x:isBed s.heap i u)(y:isBed s.heap j v):SeqAt.EqAt A s u v (decide (i=j)):=by
 obtain⟨a,l,rfl,h1,p,q,e1,r1,r1'⟩:=id x
 obtain⟨b,m,rfl,h2,p',q',e2,r2,r2'⟩:=id y
 by_cases hab:a=b
 ·subst hab
  rw [Ad9 (x.inj y)]
  exact SeqAt.EqAt.same _
 obtain rfl:l= #[p,q]:=by cases l; simp at e1; rw [e1]
 obtain rfl:m= #[p',q']:=by cases m; simp at e2; rw [e2]
 have e:=SeqAt.RcAt.tuples (A:=A) (s:=s) (e:=λk=>if k=0 then decide (i.1=j.1) else decide (i.2=j.2)) h1 h2 (by omega) λk g1 g2=>by
  match k,g1,g2 with
  |0,_,_=>exact r1.eqAt r2
  |1,_,_=>exact isInts.eqAt hu r1' r2'
  |k+2,g,_=>exact absurd g (by simp)
 have:((List.range (min #[p,q].size #[p',q'].size)).all (λk=>if k=0 then decide (i.1=j.1) else decide (i.2=j.2)) && #[p,q].size== #[p',q'].size)=decide (i=j):=by
  obtain⟨i1,i2⟩:=i
  obtain⟨j1,j2⟩:=j
  show ((List.range 2).all _ && true)=_
  simp [List.range_succ]
 rw [this] at e
 exact SeqAt.EqAt.of_refs hab e
theorem isSK.eqAt (hu:A.units+2<cLine)(x:isSK s.heap i u)(y:isSK s.heap j v):SeqAt.EqAt A s u v (decide (i=j)):=by
 obtain⟨a,l,rfl,h1,r1⟩:=id x
 obtain⟨b,m,rfl,h2,r2⟩:=id y
 exact my0 (by omega) h1 h2 r1 r2 (λe=>by subst e; exact x.inj y) λp q u v=>isBed.eqAt (by show A.units+1+1<_; omega)
def cI0 (prog:Program)(w:World)(A:Around)(s:Shared)(n:Nat)(v:Value):Prop:=∀(E:Value->Shared->Prop) (Q:Bool->Shared->Prop),Q true s->wpAny (model prog w) A (eqIsQuiet n v) Q E s
theorem dA0 (ha:s.heap.IsTuple a l)(r:∀v∈l.toList,cI0 prog w A s n v):cI0 prog w A s (n+1) (.ref a):=by
 obtain⟨o,h1,h2,k,h3⟩:=ha
 have hT:s.TypeIs (.ref a) "tuple" :=⟨o,h1,h2⟩
 intro E Q h
 unfold eqIsQuiet
 refine Aa0 (Aq8 hT F.slot_tuple_eq.lookup ?_)
 show wpAny _ _ (isInstance (.ref a) (.type "tuple")>>=_) _ _ _
 refine Aa0 (Au1 hT isSubtype_tuple_tuple ?_)
 simp only [Al2,Ad6,Ah2]
 refine Aa0 (Ai4 h1 h3 (Aa0 ?_))
 show wpAny _ _ (forIn l _ _) _ _ _
 rw [<- Array.forIn_toList]
 refine wpAny_forIn_list _ (λmore b s'=>b.1=none/\s'=s/\∀v∈more,cI0 prog w A s n v) _ ?_ ?_ _ _ ⟨rfl,rfl,r⟩
 ·rintro v more b s' ⟨hb,rfl,hq⟩
  refine Aa0 (hq v Af8 _ _ ?_)
  simp only [Al2,Ad6,Ah2]
  exact Aa8 ⟨rfl,rfl,λu hu=>hq u (Ae6 _ hu)⟩
 ·rintro⟨b1,b2⟩ s' ⟨hb,rfl,_⟩
  simp only at hb
  subst hb
  exact Aa8 h
theorem Paired.right {α β:Type}{R:α->β->Prop}{S:β->Prop}(f:∀a b,R a b->S b):∀{x:List α} {l:List β},Paired R x l->∀b∈l,S b
 |_,_,.nil,b,h=>nomatch h
 |_,_,.cons p t,b,h=>by
  rcases Ab2.mp h with e|h
  ·rw [e]; exact f _ _ p
  ·exact Paired.right f t b h
theorem isInt.quiet (x:isInt i v):cI0 prog w A s n v:=by
 obtain⟨t,rfl⟩:=x
 intro E Q h
 rw [eqIsQuiet_byValue _ rfl]
 exact Aa8 h
theorem isInts.quiet (x:isInts s.heap i v):cI0 prog w A s (n+1) v:=by
 obtain⟨a,l,rfl,h1,r⟩:=x
 exact dA0 h1 (Paired.right (S:=cI0 prog w A s n) (λ_ _ x=>isInt.quiet x) r)
theorem isBed.quiet (x:isBed s.heap i v):cI0 prog w A s (n+2) v:=by
 obtain⟨a,l,rfl,h1,p,q,e,r1,r2⟩:=x
 refine dA0 h1 λv hv=> ?_
 rw [e] at hv
 rcases Ab2.mp hv with e|hv
 ·rw [e]; exact r1.quiet
 ·rw [Aa6.mp hv]; exact r2.quiet
theorem isSK.quiet (x:isSK s.heap i v):cI0 prog w A s (n+3) v:=by
 obtain⟨a,l,rfl,h1,r⟩:=x
 exact dA0 h1 (Paired.right (S:=cI0 prog w A s (n+2)) (λ_ _ x=>isBed.quiet x) r)
end
def eq0 (prog:Program)(w:World):HeapKind prog w SK where
 is:=λh k a=>isSK h k (.ref a)
 hash:=λk=>(qB0 k).1
 draws:=λk=>(qB0 k).2
 room:=λA=>A.units+2<cLine
 inj:=isSK.inj
 keeps:=λ{h h' k a d o es ep} x ho hd hs=>isSK.keeps x λb u l n e c=>by
  refine(hs.2 b ?_).trans e
  rintro rfl
  rw [ho] at e; cases e
  rw [hd] at c; cases c
 pyHash:=λ{A E s k a Q} hu x h=>isSK.hash hu x s.toks E Q h
 eqBool:=λhu x y h=>isSK.eqAt hu x y _ _ _ _ h
 quiet:=λx h=>isSK.quiet (n:=5) x _ _ h
theorem im0 (prog:Program)(w:World)(i:Int)(t:Tok):(aO0 prog w).is (.inl i) (.int i t)=true:=mU0 i t
theorem iq0 (prog:Program)(w:World)(x:Str)(t:Tok):(aO0 prog w).is (.inr x) (.str x t)=true:=mH0 x t
inductive V where
 |non|bl (b:Bool)|int (i:Int)|str (x:Str)|byt (b:Array UInt8)|flt (b:UInt64)|ref (a:Addr)|ty (n:String)
 deriving DecidableEq
def RelV:V->Value->Prop
 | .non,u=>u=Value.none
 | .bl b,u=>u=Value.bool b
 | .int i,u=>∃t,u=Value.int i t
 | .str x,u=>∃t,u=Value.str x t
 | .byt b,u=>∃t,u=Value.bytes b t
 | .flt b,u=>∃t,u=Value.float b t
 | .ref a,u=>u=Value.ref a
 | .ty n,u=>u=Value.type n
abbrev Vals:List V->List Value->Prop:=Paired RelV
theorem Vals.length {xs:List V}{us:List Value}(r:Vals xs us):xs.length=us.length:=Paired.length r
theorem Vals.get:∀{xs:List V} {us:List Value} {i:Nat} {x:V},Vals xs us->xs[i]?=some x->∃u,us[i]?=some u/\RelV x u
 |_,_,_,_,.nil,e=>by simp at e
 |_,_,0,_,.cons r _,e=>by simp at e; subst e; exact⟨_,rfl,r⟩
 |_,_,i+1,x,.cons _ t,e=>by
  obtain⟨u,h1,h2⟩:=Vals.get (i:=i) (x:=x) t (by simpa using e)
  exact⟨u,by simpa using h1,h2⟩
theorem Vals.append:∀{xs ys:List V} {us ws:List Value},Vals xs us->Vals ys ws->Vals (xs++ys) (us++ws)
 |_,_,_,_,.nil,s=>s
 |_,_,_,_,.cons r t,s=> .cons r (Vals.append t s)
theorem Vals.take:∀{xs:List V} {us:List Value} (n:Nat),Vals xs us->Vals (xs.take n) (us.take n)
 |_,_,0,_=> .nil
 |_,_,_+1,.nil=> .nil
 |_,_,n+1,.cons r t=> .cons r (Vals.take n t)
theorem Vals.drop:∀{xs:List V} {us:List Value} (n:Nat),Vals xs us->Vals (xs.drop n) (us.drop n)
 |_,_,0,r=>r
 |_,_,_+1,.nil=> .nil
 |_,_,n+1,.cons _ t=>Vals.drop n t
def RelO:Option V->Option Value->Prop
 |some v,some u=>RelV v u
 |none,none=>True
 |_,_=>False
def KV {κ:Type}:List (κ × V)->List (κ × Value)->Prop:=Paired λ(p:κ × V) (q:κ × Value)=>p.1=q.1/\RelV p.2 q.2
def kV:Key->V
 | .inl i=> .int i
 | .inr x=> .str x
inductive HO where
 /-- a list -/
 |lst (xs:List V)
 /-- a tuple (never changes) -/
 |tup (xs:List V)
 /-- a dict whose keys are ints and texts; one whose keys are tuples of ints and texts (the empty one is both) -/
 |dK (kvs:List (Key × V))|dT (kvs:List (SK × V))
 /-- a set of ints:its members,its size -/
 |set (S:Int->Bool) (n:Nat)
 /-- an instance of the class at C,its dict at dx,its attributes -/
 |ins (C dx:Addr) (fs:List (Str × V))
 /-- the dict of the instance at x -/
 |own (x:Addr)
 /-- the dict of an exception -/
 |xd (fs:List (Str × V))
 /-- a bound method,f of x -/
 |met (f x:Addr)
 /-- a range object lo,lo+1,.. below hi -/
 |rng (lo hi:Int)
 /-- a thing that is known to the object (the script; a dict while a loop walks it):read,never written while it is so -/
 |frz (o:Obj) (u:HO)
 /-- a code object's table -/
 |tbl (ps:Array Value)
 /-- any other thing,by what is true of its one object (a def of one's own:SetO a S n:=HO.ext λh=> ..) -/
 |ext (φ:Heap->Prop)
abbrev Hp:=Addr->Option HO
def upd (H:Hp)(a:Addr)(o:HO):Hp:=λb=>if b=a then some o else H b
theorem ag0:upd H a o a=some o:=by unfold upd; rw [if_pos rfl]
theorem aj0 {H:Hp}(h:b≠a):upd H a o b=H b:=by unfold upd; rw [if_neg h]
theorem bp0 {H:Hp}(h:H a=some o)(h':H b=some u)(d:o≠u):a≠b:=by
 intro e; subst e; rw [h] at h'; exact d (Option.some.inj h')
theorem ah0 {H:Hp}(h:H a=some o)(h':H b=none):a≠b:=by
 intro e; subst e; rw [h] at h'; cases h'
def BedAt (H:Hp)(p:Int × List Int)(x:V):Prop:=∃c d,x=.ref c/\H c=some (.tup [.int p.1,.ref d])/\H d=some (.tup (p.2.map .int))
def KeyAt (H:Hp)(b:Addr)(k:SK):Prop:=∃xs,H b=some (.tup xs)/\Paired (BedAt H) k xs
theorem KeyAt.keeps {H H':Hp}(h:KeyAt H b k)(ht:∀b xs,H b=some (.tup xs)->H' b=some (.tup xs)):KeyAt H' b k:=by
 obtain⟨xs,h1,r⟩:=h
 exact⟨xs,ht _ _ h1,Paired.map2 (λ_ _ ⟨c,d,e,h2,h3⟩=>⟨c,d,e,ht _ _ h2,ht _ _ h3⟩) r⟩
section
variable (P:Program)(w:World)
def ObjOk (H:Hp)(h:Heap)(a:Addr):HO->Prop
 | .lst xs=>xs.length<=sizeLine/\∃(its:List Value) (n:Nat),Vals xs its/\h.get? a=some {cls:=.type "list",data:=.seq its.toArray n}
 | .tup xs=>xs.length<=sizeLine/\∃its:List Value,Vals xs its/\IsTup h a its.toArray/\∃ob,h.get? a=some ob/\ob.dict=none
 | .dK kvs=>kvs.length<=sizeLine/\(a==sysModules)=false/\∃vs,KV kvs vs/\h.DictOf (aO0 P w) a vs
 | .dT kvs=>kvs.length<=sizeLine/\(a==sysModules)=false/\∃xs:List (SK × Addr × Value),
   Paired (λ(p:SK × V) (q:SK × Addr × Value)=>p.1=q.1/\KeyAt H q.2.1 p.1/\RelV p.2 q.2.2) kvs xs/\
   ∃o es ep,h.get? a=some o/\o.ExactDict/\o.data=.dict es ep/\es.toList=xs.map (entryOfKey (eq0 P w))/\(xs.map (·.1)).Nodup
 | .set S n=>h.SetOf (intKind P w) a S n
 | .ins C dx fs=>H dx=some (.own a)/\fs.length<=1000/\dx≠a/\h.get? a=some (PySem.W.instObj C dx)/\
   ∃mA,h.Ns1 dx mA/\(∀f,RelO (fs.lookup f) (mA f))/\PySem.Within mA (fs.map (·.1))
 | .own _=>∃o,h.get? a=some o
 | .xd fs=>∃mA,h.Ns1 a mA/\∀f,RelO (fs.lookup f) (mA f)
 | .rng lo hi=>∃t u v,h.get? a=some {cls:=.type "range",data:=.fields #[.int lo t,.int hi u,.int 1 v]}
 | .frz o u=>h.get? a=some o/\ObjOk H h a u
 | .tbl ps=>h.get? a=some {cls:=.none,data:=.fields ps}
 | .met f x=>h.get? a=some (PySem.W.methodObj (.ref f) (.ref x))
 | .ext φ=>φ h/\(∃o,h.get? a=some o)/\∀h1 h2:Heap,φ h1->(∀o,h1.get? a=some o->h2.get? a=some o)->φ h2
def HOk (H:Hp)(h:Heap):Prop:=∀a o,H a=some o->ObjOk P w H h a o
end
section
variable {P:Program}{w:World}{H H':Hp}{h h':Heap}{a:Addr}{o:HO}
theorem ObjOk.lt (x:ObjOk P w H h a o):a<h.objs.size:=by
 cases o with
 |lst xs=>obtain⟨_,_,_,_,e⟩:=x; exact Ab6 e
 |tup xs=>obtain⟨_,_,_,p⟩:=x; exact p.1.lt
 |dK kvs=>obtain⟨_,_,_,_,o,_,_,e,_⟩:=x; exact Ab6 e
 |dT kvs=>obtain⟨_,_,_,_,o,_,_,e,_⟩:=x; exact Ab6 e
 |set S n=>obtain⟨o,_,_,_,e,_⟩:=x; exact Ab6 e
 |ins C dx fs=>obtain⟨_,_,_,e,_⟩:=x; exact Ab6 e
 |own y=>obtain⟨_,e⟩:=x; exact Ab6 e
 |xd fs=>obtain⟨_,⟨_,_,_,e,_⟩,_⟩:=x; exact Ab6 e
 |rng lo hi=>obtain⟨_,_,_,e⟩:=x; exact Ab6 e
 |frz ob u=>obtain⟨e,_⟩:=x; exact Ab6 e
 |tbl ps=>exact Ab6 (show h.get? a=some _ from x)
 |met f y=>exact Ab6 (show h.get? a=some _ from x)
 |ext φ=>obtain⟨_,⟨_,e⟩,_⟩:=x; exact Ab6 e
theorem Paired.mapP {α β:Type}{F G:α->β->Prop}:∀{l₁:List α} {l₂:List β},Paired F l₁ l₂->(∀a b,F a b->G a b)->Paired G l₁ l₂
 |_,_,.nil,_=> .nil
 |_,_,.cons r t,f=> .cons (f _ _ r) (Paired.mapP t f)
theorem ObjOk.stay (x:ObjOk P w H h a o)(k:∀b u,(b=a\/ H b=some (.own a))->h.get? b=some u->h'.get? b=some u)
  (ho:∀b,H b=some (.own a)->H' b=some (.own a)) (ht:∀b xs,H b=some (.tup xs)->H' b=some (.tup xs)):ObjOk P w H' h' a o:=by
 induction o with
 |lst xs=>obtain⟨z,its,n,r,e⟩:=x; exact⟨z,its,n,r,k _ _ (.inl rfl) e⟩
 |tup xs=>obtain⟨z,its,r,⟨ob,e,c⟩,ob2,e2,c2⟩:=x; exact⟨z,its,r,⟨ob,k _ _ (.inl rfl) e,c⟩,ob2,k _ _ (.inl rfl) e2,c2⟩
 |dK kvs=>obtain⟨z,y,vs,r,ob,es,ep,e,c⟩:=x; exact⟨z,y,vs,r,ob,es,ep,k _ _ (.inl rfl) e,c⟩
 |dT kvs=>
  obtain⟨z,y,xs,r,ob,es,ep,e,c⟩:=x
  exact⟨z,y,xs,Paired.mapP r λp q z=>⟨z.1,z.2.1.keeps ht,z.2.2⟩,ob,es,ep,k _ _ (.inl rfl) e,c⟩
 |set S n=>obtain⟨ob,es,ep,t,e,c⟩:=x; exact⟨ob,es,ep,t,k _ _ (.inl rfl) e,c⟩
 |ins C dx fs=>
  obtain⟨d,z,ne,e,mA,⟨od,es,ep,e2,c⟩,r⟩:=x
  exact⟨ho _ d,z,ne,k _ _ (.inl rfl) e,mA,⟨od,es,ep,k _ _ (.inr d) e2,c⟩,r⟩
 |own y=>obtain⟨ob,e⟩:=x; exact⟨ob,k _ _ (.inl rfl) e⟩
 |xd fs=>obtain⟨mA,⟨od,es,ep,e,c⟩,r⟩:=x; exact⟨mA,⟨od,es,ep,k _ _ (.inl rfl) e,c⟩,r⟩
 |rng lo hi=>obtain⟨t,u,v,e⟩:=x; exact⟨t,u,v,k _ _ (.inl rfl) e⟩
 |frz ob u ih=>obtain⟨e,q⟩:=x; exact⟨k _ _ (.inl rfl) e,ih q⟩
 |tbl ps=>
  have e:h.get? a=some {cls:=.none,data:=.fields ps}:=x
  show h'.get? a=some {cls:=.none,data:=.fields ps}
  exact k a _ (.inl rfl) e
 |met f y=>
  have e:h.get? a=some (PySem.W.methodObj (.ref f) (.ref y)):=x
  show h'.get? a=some (PySem.W.methodObj (.ref f) (.ref y))
  exact k a _ (.inl rfl) e
 |ext φ=>obtain⟨p,⟨o,e⟩,st⟩:=x; exact⟨st _ _ p λo q=>k _ _ (.inl rfl) q,⟨o,k _ _ (.inl rfl) e⟩,st⟩
theorem HOk.lt (x:HOk P w H h)(e:H a=some o):a<h.objs.size:=(x a o e).lt
theorem HOk.fresh (x:HOk P w H h)(e:h.objs.size<=a):H a=none:=by
 cases q:H a with
 |none=>rfl
 |some u=>exact absurd (Ad1 (x.lt q) e) (Ai6 _)
theorem HOk.kept (x:HOk P w H h)(k:∀b u,h.get? b=some u->h'.get? b=some u):HOk P w H h':=λa o e=>
 (x a o e).stay (λb u _ q=>k b u q) (λ_ q=>q) λ_ _ q=>q
theorem HOk.laid (x:HOk P w H h)(k:∀b u,h.get? b=some u->h'.get? b=some u)(hp:h.objs.size<=a)(new:ObjOk P w (upd H a o) h' a o):HOk P w (upd H a o) h':=λb u e=>by
 have hn:=x.fresh hp
 by_cases hb:b=a
 ·subst hb; rw [ag0] at e; cases e; exact new
 ·rw [aj0 hb] at e
  exact(x b u e).stay (λc v _ q=>k c v q) (λc q=>by rw [aj0 (ah0 q hn)]; exact q) λc xs q=>by rw [aj0 (ah0 q hn)]; exact q
end
def Rd (H:Hp)(a:Addr)(u:HO):Prop:=H a=some u\/ ∃o,H a=some (.frz o u)
theorem Rd.ok (r:Rd H a u)(x:HOk P w H h):ObjOk P w H h a u:=by
 rcases r with r|⟨o,r⟩
 ·exact x a u r
 ·obtain⟨_,q⟩:=x a _ r
  exact q
def Mut:Option HO->Prop
 |some (.lst _)=>True
 |some (.dK _)=>True
 |some (.dT _)=>True
 |some (.set _ _)=>True
 |some (.ins _ _ _)=>True
 |some (.ext _)=>True
 |_=>False
section
variable {P:Program}{w:World}{H:Hp}{h h':Heap}{x e:Addr}{o':HO}
theorem HOk.write (ok:HOk P w H h)(mu:Mut (H x))(he:e=x\/ H e=some (.own x))(k:∀b u,b≠e->h.get? b=some u->h'.get? b=some u)(heo:∃u,h'.get? e=some u)
  (new:ObjOk P w (upd H x o') h' x o'):HOk P w (upd H x o') h':=λb u q=>by
 have nown:∀c y,H c=some (.own y)->c≠x:=λc y r z=>by subst z; rw [r] at mu; exact mu
 have ntup:∀c xs,H c=some (.tup xs)->c≠x:=λc xs r z=>by subst z; rw [r] at mu; exact mu
 by_cases hb:b=x
 ·subst hb; rw [ag0] at q; cases q; exact new
 ·rw [aj0 hb] at q
  by_cases hbe:b=e
  ·have q':H b=some (.own x):=by
    rcases he with z|z
    ·exact absurd (hbe.trans z) hb
    ·rw [hbe]; exact z
   rw [q] at q'; cases q'
   obtain⟨v,hv⟩:=heo
   exact⟨v,by rw [hbe]; exact hv⟩
  ·refine(ok b u q).stay (λc v hc r=>k c v ?_ r) (λc r=>by rw [aj0 (nown c b r)]; exact r) λc xs r=>by rw [aj0 (ntup c xs r)]; exact r
   rcases hc with rfl|hc
   ·exact hbe
   ·rintro rfl
    rcases he with z|z
    ·exact nown c b hc z
    ·rw [hc] at z; cases z; exact hb rfl
end
structure Un (fs ex:List Addr)(H H':Hp)(h h':Heap):Prop where
 keep:∀b o,h.get? b=some o->H b=none->b∉fs->b∉ex->h'.get? b=some o
 slot:∀b o,h.get? b=some o->H b=none->b∈fs->b∉ex->∃sl,h'.get? b=some {o with slots:=sl}
 free:∀b o,h.get? b=some o->H b=none->b∉ex->H' b=none
 there:∀b o,h.get? b=some o->b∉ex->∃o',h'.get? b=some o'
 tups:∀b xs,H b=some (.tup xs)->H' b=some (.tup xs)
 frzs:∀b o u,H b=some (.frz o u)->H' b=some (.frz o u)
 tbls:∀b ps,H b=some (.tbl ps)->∃more,H' b=some (.tbl (ps++more))
section
variable {fs fs' ex ex':List Addr}{H H1 H2:Hp}{h h1 h2 h':Heap}{a x e:Addr}{o:HO}
theorem Un.any (u:Un fs ex H H1 h h1){b:Addr}{ob:Obj}(q:h.get? b=some ob)(n:H b=none)(hx:b∉ex):∃sl,h1.get? b=some {ob with slots:=sl}:=by
 by_cases hb:b∈fs
 ·exact u.slot b ob q n hb hx
 ·exact⟨ob.slots,u.keep b ob q n hb hx⟩
theorem Un.kept (k:∀b u,h.get? b=some u->h'.get? b=some u):Un fs ex H H h h':=
 ⟨λb ob q _ _ _=>k b ob q,λb ob q _ _ _=>⟨ob.slots,k b ob q⟩,λ_ _ _ n _=>n,λb ob q _=>⟨ob,k b ob q⟩,λ_ _ q=>q,λ_ _ _ q=>q,λ_ ps q=>⟨#[],by rw [q]; simp⟩⟩
theorem Un.refl:Un fs ex H H h h:=Un.kept λ_ _ q=>q
theorem Un.laid (k:∀b u,h.get? b=some u->h'.get? b=some u)(hp:h.objs.size<=a)(hn:H a=none):Un fs ex H (upd H a o) h h' where
 keep:=λb u q _ _ _=>k b u q
 slot:=λb u q _ _ _=>⟨u.slots,k b u q⟩
 free:=λb u q n _=>by rw [aj0 (Ad4 (Ad1 (Ab6 q) hp))]; exact n
 there:=λb u q _=>⟨u,k b u q⟩
 tups:=λb xs q=>by rw [aj0 (ah0 q hn)]; exact q
 frzs:=λb u xs q=>by rw [aj0 (ah0 q hn)]; exact q
 tbls:=λb ps q=>⟨#[],by rw [aj0 (ah0 q hn),q]; simp⟩
theorem Un.write (mu:Mut (H x))(he:e=x\/ H e=some (.own x))(k:∀b u,b≠e->h.get? b=some u->h'.get? b=some u)(heo:∃u,h'.get? e=some u):Un fs ex H (upd H x o) h h':=by
 have hx:∀b,H b=none->b≠x:=λb n z=>by subst z; rw [n] at mu; exact mu
 have hb:∀b,H b=none->b≠e:=λb n z=>by
  subst z
  rcases he with r|r
  ·exact hx b n r
  ·rw [n] at r; cases r
 have hm:∀b u,H b=some u->¬Mut (some u)->b≠x:=λb u q nm z=>by subst z; rw [q] at mu; exact nm mu
 refine⟨λb u q n _ _=>k b u (hb b n) q,λb u q n _ _=>⟨u.slots,k b u (hb b n) q⟩,λb u q n _=>by rw [aj0 (hx b n)]; exact n,λb u q _=> ?_,
  λb xs q=>by rw [aj0 (hm b _ q λz=>z)]; exact q,λb u xs q=>by rw [aj0 (hm b _ q λz=>z)]; exact q,λb ps q=>⟨#[],by rw [aj0 (hm b _ q λz=>z),q]; simp⟩⟩
 by_cases hbe:b=e
 ·subst hbe; exact heo
 ·exact⟨u,k b u hbe q⟩
end
def trk (h:Heap)(H:Hp):List Addr:=(List.range h.objs.size).filter λa=>(H a).isSome
def hidT (h:Heap)(H:Hp):Heap:=PySem.W.hideAll h (trk h H)
theorem nf0 (h:Heap)(H:Hp):(hidT h H).objs.size=h.objs.size:=PySem.W.hideAll_size _ _
theorem ow0 {h:Heap}{H:Hp}(e:h.get? b=some o)(n:H b=none):(hidT h H).get? b=some o:=
 PySem.W.hideAll_get _ e λhm=>by
  have q:(H b).isSome=true:=(Ai8.mp hm).2
  rw [n] at q; simp at q
theorem pK0 {H:Hp}(e:(hidT h H).get? b=some o):h.get? b=some o/\H b=none:=by
 have e':h.get? b=some o:=PySem.W.of_hideAll (trk h H) e
 refine⟨e',?_⟩
 cases q:H b with
 |none=>rfl
 |some x=>
  have hm:b∈trk h H:=Ai8.mpr ⟨Ag5.mpr (Ab6 e'),by simp [q]⟩
  have z:(hidT h H).get? b=none:=PySem.W.hideAll_none (trk h H) hm
  rw [z] at e; cases e
structure Mod (K:Aa3)(mg:Str->Option Value)(base:Heap):Prop where
 kin:K.In base
 glob:base.Ns mainGlobals mg
 blt:∃mb,base.Ns builtinsNs mb/\∀x:Str,x≠ "__name__" ->mb x=bootBuiltins x
 nolimit:base.NoLimit
structure Cx where
 prog:Program
 w:World
 K:Aa3
 mg:Str->Option Value
 base:Heap
 A:Around
 N:List Str
 s₀:Shared
 H₀:Hp
 env:Env
 outer:List Env
 stack:List Env
 ex:List Addr
 fn:Str->Bool
 calm:Bool
 pn:List (Addr × Obj)
 xe:Value->Shared->Prop
def frs (l:List Env):List Addr:=l.filterMap (·.frame)
abbrev Cx.fs (X:Cx):List Addr:=frs X.outer
def Vis (sc:Scope)(x:Str):Prop:=sc.names.lookup x=some .local\/ sc.names.lookup x=some .cell\/ sc.names.lookup x=some .free
def Loc (sc:Scope)(x:Str):Prop:=sc.names.lookup x=some .local\/ sc.names.lookup x=some .cell
def Look (env:Env)(h:Heap)(m:Str->Option Value)(x:Str)(u:Value):Prop:=
 (env.kindOf x=some .local/\m x=some u)\/ ((env.kindOf x=some .cell\/ env.kindOf x=some .free)/\∃c,env.cells.lookup x=some c/\h.IsCell c (some u))
structure Cx.Ok (X:Cx):Prop where
 mod:Mod X.K X.mg X.base
 kind:X.env.scope.kind=.function
 glob:X.env.globals=mainGlobals
 blt:X.env.builtins=builtinsNs
 above:X.s₀.heap.objs.size<=X.env.locals
 inj:∀x y c,X.env.cells.lookup x=some c->X.env.cells.lookup y=some c->x=y
 has:∀x,(X.env.kindOf x=some .cell\/ X.env.kindOf x=some .free)->∃c,X.env.cells.lookup x=some c
 cab:∀x c,X.fn x=true->X.env.cells.lookup x=some c->X.s₀.heap.objs.size<=c
 hd:X.calm=true->X.A.handled=none
 frames:X.A.frames=some X.stack
 stk:X.stack=X.outer\/ (X.stack=X.env::X.outer/\X.env.frame=some X.env.locals)
 exf:∀b∈X.ex,b≠X.env.locals/\∀x c,X.env.cells.lookup x=some c->c≠b
 bs:∀b o,X.base.get? b=some o->X.s₀.heap.get? b=some o/\X.H₀ b=none
 bsz:X.base.objs.size<=X.s₀.heap.objs.size
 noex:∀b o,X.base.get? b=some o->b∉X.ex
 exfs:∀b∈X.ex,b∉X.fs
 funs:X.s₀.heap.FunFrames X.base X.outer
 frf:∀b∈X.fs,X.H₀ b=none
structure Inv (X:Cx)(pins:List (Addr × Obj))(σ:List (Option V))(H:Hp)(s:Shared):Prop where
 ok:X.Ok
 os:s.os=X.s₀.os
 bare:AllBare s.gens
 base:Un X.fs X.ex X.H₀ H X.s₀.heap s.heap
 loc:∃m,s.heap.Ns X.env.locals m/\∀(i:Nat) (x:Str) (v:V),X.N[i]?=some x->σ[i]?=some (some v)->Vis X.env.scope x->∃u,RelV v u/\Look X.env s.heap m x u
 cell:∀x c,X.env.cells.lookup x=some c->∃v,s.heap.IsCell c v
 free:H X.env.locals=none
 freeC:∀x c,X.env.cells.lookup x=some c->H c=none
 pin:∀p∈X.pn++pins,s.heap.get? p.1=some p.2/\H p.1=none/\p.1≠X.env.locals/\p.1∉X.fs/\∀v,p.2.data≠ .cell v
 hok:HOk X.prog X.w H s.heap
 len:σ.length=X.N.length
section
variable {X:Cx}{pins:List (Addr × Obj)}{σ:List (Option V)}{H H':Hp}{s:Shared}{h':Heap}
theorem Cx.Ok.nofr (ok:X.Ok)(e:X.base.get? b=some o):b∉X.fs:=λhb=>by
 have:=(ok.funs.mem hb).1
 rw [e] at this; cases this
theorem Inv.bs (I:Inv X pins σ H s):∀b o,X.base.get? b=some o->s.heap.get? b=some o/\H b=none:=λb o e=>
 ⟨I.base.keep b o (I.ok.bs b o e).1 (I.ok.bs b o e).2 (I.ok.nofr e) (I.ok.noex b o e),I.base.free b o (I.ok.bs b o e).1 (I.ok.bs b o e).2 (I.ok.noex b o e)⟩
theorem Inv.bk (I:Inv X pins σ H s):∀b o,X.base.get? b=some o->s.heap.get? b=some o:=λb o e=>(I.bs b o e).1
theorem Inv.mod (I:Inv X pins σ H s):Mod X.K X.mg X.base:=I.ok.mod
theorem Inv.kIn (I:Inv X pins σ H s):X.K.In s.heap:=I.ok.mod.kin.keeps I.bk
theorem Inv.fr (I:Inv X pins σ H s):∃m,Fr X.base X.env.locals s.heap m:=
 let ⟨m,hn,_⟩:=I.loc
 ⟨m,hn,I.bk,Ac6 I.ok.bsz I.ok.above⟩
theorem Inv.lt (I:Inv X pins σ H s):X.env.locals<s.heap.objs.size:=let ⟨_,hn,_⟩:=I.loc; hn.lt
theorem Inv.sz (I:Inv X pins σ H s):X.s₀.heap.objs.size<=s.heap.objs.size:=Ac6 I.ok.above (Aw2 I.lt)
theorem Inv.nofs (I:Inv X pins σ H s)(h:s.heap.objs.size<=a):a∉X.fs:=λhb=>by
 obtain⟨_,o,ho,_⟩:=I.ok.funs.mem hb
 exact absurd (Ad1 (Ab6 ho) (Ac6 I.sz h)) (Ai6 _)
theorem Inv.cne (I:Inv X pins σ H s):∀x c,X.env.cells.lookup x=some c->c≠X.env.locals:=λx c e z=>by
 obtain⟨v,o,ho,hd⟩:=I.cell x c e
 obtain⟨m,⟨o',es,ep,ho',hd',_⟩,_⟩:=I.loc
 rw [z,ho'] at ho; cases ho; rw [hd'] at hd; cases hd
theorem Inv.funs (I:Inv X pins σ H s):s.heap.FunFrames X.base X.outer:=by
 have all:∀(l:List Env),(∀b∈frs l,b∈X.fs)->X.s₀.heap.FunFrames X.base l->s.heap.FunFrames X.base l:=by
  intro l
  induction l with
  |nil=>intro _ _; trivial
  |cons env r ih=>
   intro hs hl
   obtain⟨hk,⟨L,o,hf,hn,ho,hd⟩,hr⟩:=hl
   have hL:L∈X.fs:=hs L (by unfold frs; rw [Ar3,hf]; exact Af8)
   obtain⟨sl,e⟩:=I.base.slot L o ho (I.ok.frf L hL) hL λz=>I.ok.exfs L z hL
   exact⟨hk,⟨L,_,hf,hn,e,hd⟩,ih (λb hb=>hs b (by unfold frs; rw [Ar3,hf]; exact Ae6 _ hb)) hr⟩
 exact all X.outer (λ_ hb=>hb) I.ok.funs
theorem Inv.stack (I:Inv X pins σ H s):s.heap.FunFrames X.base X.stack:=by
 rcases I.ok.stk with e|⟨e,hf⟩
 ·rw [e]; exact I.funs
 ·rw [e]
  obtain⟨m,hn,_⟩:=I.loc
  refine .cons (by rw [I.ok.kind]; decide) hf hn ?_ I.funs
  exact Heap.get?_none_of_le (Ac6 I.ok.bsz I.ok.above)
theorem Inv.stkSub (I:Inv X pins σ H s):∀b∈frs X.stack,b∈X.env.locals::X.fs:=λb hb=>by
 rcases I.ok.stk with e|⟨e,hf⟩
 ·rw [e] at hb; exact Ae6 _ hb
 ·rw [e] at hb
  unfold frs at hb
  rw [Ar3,hf] at hb
  exact hb
theorem Inv.stkFree (I:Inv X pins σ H s):∀b∈frs X.stack,H b=none:=λb hb=>by
 rcases Ab2.mp (I.stkSub b hb) with e|hb
 ·rw [e]; exact I.free
 ·obtain⟨_,o,ho,_⟩:=I.ok.funs.mem hb
  exact I.base.free b o ho (I.ok.frf b hb) λz=>I.ok.exfs b z hb
theorem Inv.step {g':Array GenState}{t':Nat}{d':Drawn}{ch:List Addr}(I:Inv X pins σ H s)
  (hch:∀b∈ch,(b∈X.ex\/ X.s₀.heap.objs.size<=b)/\b≠X.env.locals/\(∀x c,X.env.cells.lookup x=some c->c≠b)/\∀p∈X.pn++pins,p.1≠b)
  (keep:∀b o,b≠X.env.locals->b∉X.fs->b∉ch->s.heap.get? b=some o->H b=none->h'.get? b=some o)
  (slot:∀b o,b≠X.env.locals->b∈X.fs->b∉ch->s.heap.get? b=some o->H b=none->∃sl,h'.get? b=some {o with slots:=sl}) (free:∀b o,b∉ch->s.heap.get? b=some o->H b=none->H' b=none)
  (there:∀b o,b∉ch->s.heap.get? b=some o->∃o',h'.get? b=some o')
  (tups:∀b xs,H b=some (.tup xs)->H' b=some (.tup xs)) (frzs:∀b o u,H b=some (.frz o u)->H' b=some (.frz o u)) (tbls:∀b ps,H b=some (.tbl ps)->∃more,H' b=some (.tbl (ps++more)))
  (ns:∀m,s.heap.Ns X.env.locals m->h'.Ns X.env.locals m) (hok:HOk X.prog X.w H' h') (hg:AllBare g'):
  Inv X pins σ H' {s with heap:=h',gens:=g',drawn:=d',toks:=t'}:=by
 have neL:∀b o,X.s₀.heap.get? b=some o->b≠X.env.locals:=λb o e=>Ad4 (Ad1 (Ab6 e) I.ok.above)
 have neC:∀b o,X.s₀.heap.get? b=some o->b∉X.ex->b∉ch:=λb o e hx hb=>by
  rcases(hch b hb).1 with z|z
  ·exact hx z
  ·exact absurd (Ad1 (Ab6 e) z) (Ai6 _)
 have cellK:∀x c,X.env.cells.lookup x=some c->∀v,s.heap.IsCell c v->h'.IsCell c v:=λx c e v ⟨o,ho,hd⟩=>by
  have nch:c∉ch:=λz=>(hch c z).2.2.1 x c e rfl
  by_cases hc:c∈X.fs
  ·obtain⟨sl,q⟩:=slot c o (I.cne x c e) hc nch ho (I.freeC x c e)
   exact⟨_,q,hd⟩
  ·exact⟨o,keep c o (I.cne x c e) hc nch ho (I.freeC x c e),hd⟩
 refine⟨I.ok,I.os,hg,⟨λb o e n hb hx=> ?_,λb o e n hb hx=> ?_,λb o e n hx=> ?_,λb o e hx=> ?_,λb xs e=>tups b xs (I.base.tups b xs e),λb o xs e=>frzs b o xs (I.base.frzs b o xs e),λb ps e=> ?_⟩,?_,λx c e=> ?_,?_,λx c e=> ?_,λp hp=> ?_,hok,I.len⟩
 ·exact keep b o (neL b o e) hb (neC b o e hx) (I.base.keep b o e n hb hx) (I.base.free b o e n hx)
 ·obtain⟨sl,e1⟩:=I.base.slot b o e n hb hx
  obtain⟨sl',e2⟩:=slot b _ (neL b o e) hb (neC b o e hx) e1 (I.base.free b o e n hx)
  exact⟨sl',e2⟩
 ·obtain⟨o',e1⟩:=I.base.there b o e hx
  exact free b o' (neC b o e hx) e1 (I.base.free b o e n hx)
 ·obtain⟨o',e1⟩:=I.base.there b o e hx
  exact there b o' (neC b o e hx) e1
 ·obtain⟨m1,e1⟩:=I.base.tbls b ps e
  obtain⟨m2,e2⟩:=tbls b _ e1
  exact⟨m1++m2,by rw [e2,Array.append_assoc]⟩
 ·obtain⟨m,hn,hl⟩:=I.loc
  refine⟨m,ns m hn,λi x v e1 e2 e3=> ?_⟩
  obtain⟨u,r,l⟩:=hl i x v e1 e2 e3
  refine⟨u,r,?_⟩
  rcases l with l|⟨k,c,e,z⟩
  ·exact .inl l
  ·exact .inr ⟨k,c,e,cellK x c e _ z⟩
 ·obtain⟨v,z⟩:=I.cell x c e
  exact⟨v,cellK x c e v z⟩
 ·obtain⟨m,⟨o,_,_,ho,_⟩,_⟩:=I.loc
  exact free _ o (λz=>(hch _ z).2.1 rfl) ho I.free
 ·obtain⟨v,o,ho,hd⟩:=I.cell x c e
  exact free c o (λz=>(hch c z).2.2.1 x c e rfl) ho (I.freeC x c e)
 ·obtain⟨e,n,ne,nf,d⟩:=I.pin p hp
  have nch:p.1∉ch:=λz=>(hch p.1 z).2.2.2 p hp rfl
  exact⟨keep p.1 p.2 ne nf nch e n,free p.1 p.2 nch e n,ne,nf,d⟩
theorem Inv.un {t':Nat}(I:Inv X pins σ H s)(u:Un X.fs [] H H' s.heap h')(hok:HOk X.prog X.w H' h'):Inv X pins σ H' {s with heap:=h',toks:=t'}:=by
 obtain⟨m,⟨o,es,ep,ho,r⟩,_⟩:=id I.loc
 obtain⟨sl,hL⟩:=u.any ho I.free (by simp)
 exact I.step (g':=s.gens) (d':=s.drawn) (ch:=[]) (λ_ z=>nomatch z) (λb o _ hb _ e n=>u.keep b o e n hb (by simp)) (λb o _ hb _ e n=>u.slot b o e n hb (by simp)) (λb o _ e n=>u.free b o e n (by simp)) (λb o _ e=>u.there b o e (by simp)) u.tups u.frzs u.tbls (λm' hm=>by
  obtain⟨o',es',ep',ho',r'⟩:=hm
  rw [ho] at ho'; cases ho'
  exact⟨_,es',ep',hL,r'⟩) hok I.bare
theorem Inv.call {g':Array GenState}{t':Nat}{d':Drawn}{ch:List Addr}(I:Inv X pins σ H s)(u:Un (frs X.stack) ch H H' s.heap h')(hok:HOk X.prog X.w H' h')(hg:AllBare g')
  (hch:∀b∈ch,(b∈X.ex\/ X.s₀.heap.objs.size<=b)/\b≠X.env.locals/\(∀x c,X.env.cells.lookup x=some c->c≠b)/\∀p∈X.pn++pins,p.1≠b):
  Inv X pins σ H' {s with heap:=h',gens:=g',drawn:=d',toks:=t'}:=by
 obtain⟨m,⟨o,es,ep,ho,r⟩,_⟩:=id I.loc
 obtain⟨sl,hL⟩:=u.any ho I.free λz=>(hch _ z).2.1 rfl
 exact I.step (ch:=ch) hch (λb o hL hb hc e n=>u.keep b o e n (λz=>(Ab2.mp (I.stkSub b z)).elim hL hb) hc) (λb o _ _ hc e n=>u.any e n hc) (λb o hc e n=>u.free b o e n hc) (λb o hc e=>u.there b o e hc) u.tups u.frzs u.tbls (λm' hm=>by
  obtain⟨o',es',ep',ho',r'⟩:=hm
  rw [ho] at ho'; cases ho'
  exact⟨_,es',ep',hL,r'⟩) hok hg
theorem Inv.turned {t':Nat}{it:Addr}(I:Inv X pins σ H s)(k:∀b o,b≠it->s.heap.get? b=some o->h'.get? b=some o)(hn:H it=none)(hL:it≠X.env.locals)
  (h1:it∈X.ex\/ X.s₀.heap.objs.size<=it) (h2:∀x c,X.env.cells.lookup x=some c->c≠it) (h3:∀p∈X.pn++pins,p.1≠it):Inv X pins σ H {s with heap:=h',toks:=t'}:=by
 have nit:∀b u,H b=some u->b≠it:=λb u e z=>by rw [z,hn] at e; cases e
 refine I.step (g':=s.gens) (d':=s.drawn) (ch:=[it]) (λb hb=> ?_) (λb o _ _ hc e _=>k b o (λz=>hc (by simp [z])) e) (λb o _ _ hc e _=>⟨o.slots,k b o (λz=>hc (by simp [z])) e⟩) (λ_ _ _ _ n=>n)
  (λb o hc e=>⟨o,k b o (λz=>hc (by simp [z])) e⟩) (λ_ _ e=>e) (λ_ _ _ e=>e) (λb ps e=>⟨#[],by rw [e]; simp⟩) (λm hm=> ?_) (λb u e=> ?_) I.bare
 ·have e:b=it:=by simpa using hb
  subst e
  exact⟨h1,hL,h2,h3⟩
 ·obtain⟨o,es,ep,ho,r⟩:=hm
  exact⟨o,es,ep,k _ o (Ne.symm hL) ho,r⟩
 ·refine(I.hok b u e).stay (λc v hc q=>k c v ?_ q) (λ_ q=>q) λ_ _ q=>q
  rcases hc with z|z
  ·rw [z]; exact nit b u e
  ·exact nit c _ z
theorem Inv.tok (I:Inv X pins σ H s)(t:Nat):Inv X pins σ H {s with toks:=t}:=I.un (h':=s.heap) (t':=t) Un.refl I.hok
theorem Inv.kept (I:Inv X pins σ H s)(k:∀b u,s.heap.get? b=some u->h'.get? b=some u):Inv X pins σ H {s with heap:=h',toks:=t'}:=I.un (Un.kept k) (I.hok.kept k)
theorem Inv.laid (I:Inv X pins σ H s)(k:∀b u,s.heap.get? b=some u->h'.get? b=some u)(hp:s.heap.objs.size<=a)(new:ObjOk X.prog X.w (upd H a o) h' a o):
  Inv X pins σ (upd H a o) {s with heap:=h',toks:=t'}:=I.un (Un.laid k hp (I.hok.fresh hp)) (I.hok.laid k hp new)
theorem Inv.write (I:Inv X pins σ H s)(mu:Mut (H x))(he:e=x\/ H e=some (.own x))(k:∀b u,b≠e->s.heap.get? b=some u->h'.get? b=some u)(heo:∃u,h'.get? e=some u)
  (new:ObjOk X.prog X.w (upd H x o) h' x o):Inv X pins σ (upd H x o) {s with heap:=h',toks:=t'}:=I.un (Un.write mu he k heo) (I.hok.write mu he k heo new)
theorem Inv.weak {σ':List (Option V)}(I:Inv X pins σ H s)(hl:σ'.length=σ.length)(w:∀(i:Nat) v,σ'[i]?=some (some v)->σ[i]?=some (some v)):Inv X pins σ' H s:=
 ⟨I.ok,I.os,I.bare,I.base,let ⟨m,hn,hl'⟩:=I.loc; ⟨m,hn,λi x v e1 e2 e3=>hl' i x v e1 (w i v e2) e3⟩,I.cell,I.free,I.freeC,I.pin,I.hok,hl.trans I.len⟩
theorem Inv.pins_of (I:Inv X pins σ H s)(h:∀p∈pins',s.heap.get? p.1=some p.2/\H p.1=none/\p.1≠X.env.locals/\p.1∉X.fs/\∀v,p.2.data≠ .cell v):Inv X pins' σ H s:=
 ⟨I.ok,I.os,I.bare,I.base,I.loc,I.cell,I.free,I.freeC,λp hp=>(Ad8.mp hp).elim (λz=>I.pin p (Ag2 _ z)) (h p),I.hok,I.len⟩
theorem jM0 {N:List Str}(hN:N.Nodup){i j:Nat}{x:Str}(a:N[i]?=some x)(b:N[j]?=some x):i=j:=by
 obtain⟨h1,e1⟩:=Aa9.mp a
 obtain⟨h2,e2⟩:=Aa9.mp b
 exact(List.getElem_inj hN).mp (e1.trans e2.symm)
theorem gY0 {E:Value->Shared->Prop}{Q:Unit->Shared->Prop}(I:Inv X pins σ H s)(hN:X.N.Nodup)(hi:X.N[i]?=some x)(hx:Loc X.env.scope x)(r:RelV v u)
  (h:∀s',Inv X pins (σ.set i (some v)) H s'->(∃a,Heap.SameBut a s.heap s'.heap/\(a=X.env.locals\/ X.env.cells.lookup x=some a))->Q () s') (hf:X.fn x=true\/ X.env.scope.names.lookup x=some .local:=by first|exact .inl rfl|exact .inr rfl|assumption):wpAny M A (storeName X.env x u) Q E s:=by
 obtain⟨m,hn,hl⟩:=id I.loc
 have hcls:(X.env.scope.kind==.class||(X.env.scope.kind==.module && X.env.locals !=X.env.globals))=false:=by rw [I.ok.kind]; rfl
 have hiσ:i<σ.length:=by rw [I.len]; exact(Aa9.mp hi).1
 have cne:=I.cne
 have tracked:∀{a:Addr} {h':Heap},(∃o,s.heap.get? a=some o/\H a=none)->Heap.SameBut a s.heap h'->HOk X.prog X.w H h':=λ{a h'} ha hs b ob e=>by
  obtain⟨_,_,hfree⟩:=ha
  refine(I.hok b ob e).stay (λc w' hc q=>(hs.2 c ?_).trans q) (λ_ q=>q) λ_ _ q=>q
  rintro rfl
  rcases hc with rfl|hc
  ·rw [hfree] at e; cases e
  ·rw [hfree] at hc; cases hc
 rcases hx with hk|hk
 ·refine wpAny_storeName_local hk hn (λh' hn' hs=> ?_) hcls
  obtain⟨oL,_,_,hoL,_⟩:=id hn
  refine h _ ⟨I.ok,I.os,I.bare,⟨λb o e n hb hx=> ?_,λb o e n hb hx=> ?_,I.base.free,λb o e hx=> ?_,I.base.tups,I.base.frzs,I.base.tbls⟩,⟨_,hn',λj y v' e1 e2 e3=> ?_⟩,λy c e=> ?_,I.free,I.freeC,λp hp=> ?_,tracked ⟨oL,hoL,I.free⟩ hs,by simpa using I.len⟩ ⟨_,hs,.inl rfl⟩
  ·exact(hs.2 b (Ad4 (Ad1 (Ab6 e) I.ok.above))).trans (I.base.keep b o e n hb hx)
  ·obtain⟨sl,e1⟩:=I.base.slot b o e n hb hx
   exact⟨sl,(hs.2 b (Ad4 (Ad1 (Ab6 e) I.ok.above))).trans e1⟩
  ·obtain⟨o',e1⟩:=I.base.there b o e hx
   exact⟨o',(hs.2 b (Ad4 (Ad1 (Ab6 e) I.ok.above))).trans e1⟩
  ·by_cases hj:j=i
   ·subst hj
    rw [hi] at e1; cases e1
    rw [Aj5 hiσ] at e2
    cases e2
    exact⟨u,r,.inl ⟨hk,by simp⟩⟩
   ·rw [Ad7 (Ne.symm hj)] at e2
    obtain⟨u',r',q⟩:=hl j y v' e1 e2 e3
    refine⟨u',r',?_⟩
    rcases q with⟨k,e⟩|⟨k,c,e,z⟩
    ·refine .inl ⟨k,?_⟩
     have:y≠x:=λe=>hj (jM0 hN e1 (e▸hi))
     simp [this,e]
    ·exact .inr ⟨k,c,e,z.sameBut hs (cne y c e)⟩
  ·obtain⟨w',z⟩:=I.cell y c e
   exact⟨w',z.sameBut hs (cne y c e)⟩
  ·obtain⟨e,n,ne,nf,d⟩:=I.pin p hp
   exact⟨(hs.2 p.1 ne).trans e,n,ne,nf,d⟩
 ·have hfn:X.fn x=true:=by
   rcases hf with z|z
   ·exact z
   ·rw [z] at hk; cases hk
  obtain⟨c,hc⟩:=I.ok.has x (.inl hk)
  obtain⟨w',z⟩:=I.cell x c hc
  refine wpAny_storeName_cell I.ok.kind hk hc z (λh' hc' hs=> ?_)
  obtain⟨oc,hoc,hocd⟩:=id z
  refine h {s with heap:=h'} ⟨I.ok,I.os,I.bare,⟨λb o e n hb hx=> ?_,λb o e n hb hx=> ?_,I.base.free,λb o e hx=> ?_,I.base.tups,I.base.frzs,I.base.tbls⟩,⟨m,hn.sameBut hs (Ne.symm (cne x c hc)),λj y v' e1 e2 e3=> ?_⟩,λy c' e=> ?_,I.free,I.freeC,λp hp=> ?_,tracked ⟨oc,hoc,I.freeC x c hc⟩ hs,by simpa using I.len⟩ ⟨c,hs,.inr hc⟩
  ·exact(hs.2 b (Ad4 (Ad1 (Ab6 e) (I.ok.cab x c hfn hc)))).trans (I.base.keep b o e n hb hx)
  ·obtain⟨sl,e1⟩:=I.base.slot b o e n hb hx
   exact⟨sl,(hs.2 b (Ad4 (Ad1 (Ab6 e) (I.ok.cab x c hfn hc)))).trans e1⟩
  ·obtain⟨o',e1⟩:=I.base.there b o e hx
   exact⟨o',(hs.2 b (Ad4 (Ad1 (Ab6 e) (I.ok.cab x c hfn hc)))).trans e1⟩
  ·by_cases hj:j=i
   ·subst hj
    rw [hi] at e1; cases e1
    rw [Aj5 hiσ] at e2
    cases e2
    exact⟨u,r,.inr ⟨.inl hk,c,hc,hc'⟩⟩
   ·rw [Ad7 (Ne.symm hj)] at e2
    obtain⟨u',r',q⟩:=hl j y v' e1 e2 e3
    refine⟨u',r',?_⟩
    rcases q with q|⟨k,c',e,z'⟩
    ·exact .inl q
    ·refine .inr ⟨k,c',e,z'.sameBut hs ?_⟩
     rintro rfl
     exact hj (jM0 hN e1 (I.ok.inj _ _ _ e hc▸hi))
  ·by_cases hcc:c'=c
   ·subst hcc; exact⟨_,hc'⟩
   ·obtain⟨w2,z2⟩:=I.cell y c' e
    exact⟨w2,z2.sameBut hs hcc⟩
  ·obtain⟨e,n,ne,nf,d⟩:=I.pin p hp
   refine⟨(hs.2 p.1 ?_).trans e,n,ne,nf,d⟩
   intro q
   rw [q,hoc] at e
   have q':oc=p.2:=Option.some.inj e
   exact d w' (by rw [<- q']; exact hocd)
theorem iN0 {E:Value->Shared->Prop}{Q:Unit->Shared->Prop}(I:Inv X pins σ H s)(hN:X.N.Nodup)(hi:X.N[i]?=some x)(hx:Loc X.env.scope x)(r:RelV v u)
  (h:∀s',Inv X pins (σ.set i (some v)) H s'->Q () s') (hf:X.fn x=true\/ X.env.scope.names.lookup x=some .local:=by first|exact .inl rfl|exact .inr rfl|assumption):wpAny M A (storeName X.env x u) Q E s:=
 gY0 I hN hi hx r (λs' I' _=>h s' I') hf
theorem Inv.call' {s':Shared}(I:Inv X pins σ H s)(ho:s'.os=s.os)(u:Un (frs X.stack) ch H H' s.heap s'.heap)(hok:HOk X.prog X.w H' s'.heap)(hg:AllBare s'.gens)
  (hch:∀b∈ch,(b∈X.ex\/ X.s₀.heap.objs.size<=b)/\b≠X.env.locals/\(∀x c,X.env.cells.lookup x=some c->c≠b)/\∀p∈X.pn++pins,p.1≠b):Inv X pins σ H' s':=by
 obtain⟨h',g',d',t',o'⟩:=s'
 have e:o'=s.os:=ho
 subst e
 exact I.call (g':=g') (t':=t') (d':=d') u hok hg hch
end
abbrev XK:=Value->Option Addr->Hp->Prop
abbrev St:=List (Option V)
abbrev VK:=V->Hp->Prop
abbrev TE:=St->Hp->VK->Prop
abbrev TT:=St->Hp->(Bool->Hp->Prop)->Prop
abbrev TA:=St->Hp->(List V->Hp->Prop)->Prop
structure Ends where
 nx:St->Hp->Prop
 rt:VK
 bk:St->Hp->Prop:=λ_ _=>False
 ct:St->Hp->Prop:=λ_ _=>False
abbrev TS:=Ends->St->Hp->Prop
def EP (X:Cx)(pins:List (Addr × Obj))(σ:St)(Q:VK)(u:Value)(s':Shared):Prop:=∃v H',Inv X pins σ H' s'/\RelV v u/\Q v H'
def TP (X:Cx)(pins:List (Addr × Obj))(σ:St)(Q:Bool->Hp->Prop)(b:Bool)(s':Shared):Prop:=∃H',Inv X pins σ H' s'/\Q b H'
def AP (X:Cx)(pins:List (Addr × Obj))(σ:St)(Q:List V->Hp->Prop)(us:List Value)(s':Shared):Prop:=∃vs H',Inv X pins σ H' s'/\Vals vs us/\Q vs H'
def SP (X:Cx)(pins:List (Addr × Obj))(D:Ends)(f:Flow)(s':Shared):Prop:=
 match f with
 | .next=>∃σ' H',Inv X pins σ' H' s'/\D.nx σ' H'
 | .brk=>∃σ' H',Inv X pins σ' H' s'/\D.bk σ' H'
 | .cont=>∃σ' H',Inv X pins σ' H' s'/\D.ct σ' H'
 | .ret u=>∃v σ' H',Inv X pins σ' H' s'/\RelV v u/\D.rt v H'
def PE (X:Cx)(e:Expr)(t:TE):Prop:=
 ∀(pins:List (Addr × Obj)) (s:Shared) (σ:St) (H:Hp) (Q:VK),Inv X pins σ H s->t σ H Q->wpAny (model X.prog X.w) X.A (eval e X.env) (EP X pins σ Q) X.xe s
def PT (X:Cx)(e:Expr)(t:TT):Prop:=
 ∀(pins:List (Addr × Obj)) (s:Shared) (σ:St) (H:Hp) (Q:Bool->Hp->Prop),Inv X pins σ H s->t σ H Q->wpAny (model X.prog X.w) X.A (isTrue e X.env (eval e X.env)) (TP X pins σ Q) X.xe s
def PW (X:Cx)(e:Expr)(t:TT):Prop:=
 ∀(whole:Sem Value) (pins:List (Addr × Obj)) (s:Shared) (σ:St) (H:Hp) (Q:Bool->Hp->Prop),Inv X pins σ H s->t σ H Q->wpAny (model X.prog X.w) X.A (isTrue e X.env whole) (TP X pins σ Q) X.xe s
theorem PW.pt (h:PW X e t):PT X e t:=h _
def PA (X:Cx)(es:List Expr)(t:TA):Prop:=
 ∀(pos:Pos) (pins:List (Addr × Obj)) (s:Shared) (σ:St) (H:Hp) (Q:List V->Hp->Prop),Inv X pins σ H s->t σ H Q->wpAny (model X.prog X.w) X.A (spliced (backTo pos (starEach es X.env))) (AP X pins σ Q) X.xe s
def PS (X:Cx)(st:Stmt)(t:TS):Prop:=
 ∀(pins:List (Addr × Obj)) (s:Shared) (σ:St) (H:Hp) (D:Ends),Inv X pins σ H s->t D σ H->wpAny (model X.prog X.w) X.A (exec st X.env) (SP X pins D) X.xe s
def PSs (X:Cx)(st:List Stmt)(t:TS):Prop:=
 ∀(pins:List (Addr × Obj)) (s:Shared) (σ:St) (H:Hp) (D:Ends),Inv X pins σ H s->t D σ H->wpAny (model X.prog X.w) X.A (execs st X.env) (SP X pins D) X.xe s
theorem thn {α:Type}{t:Sem α}{Q Q':α->Shared->Prop}{M:Model}{A:Around}{E:Value->Shared->Prop}{s:Shared}(h:wpAny M A t Q E s)(hQ:∀a s,Q a s->Q' a s):wpAny M A t Q' E s:=Aj7 h hQ λ_ _ x=>x
section
variable {X:Cx}
def tVar (i:Nat):TE:=λσ H Q=>∃v,σ[i]?=some (some v)/\Q v H
def tC (v:V):TE:=λ_ H Q=>Q v H
theorem sf0 (hN:X.N[i]?=some x)(hv:Vis X.env.scope x)(hd:(x==("__debug__" :Str))=false:=by decide) (hcd:(x==("__classdict__" :Str))=false:=by decide):PE X (.Name x pos) (tVar i):=by
 intro pins s σ H Q I h
 obtain⟨v,e,h⟩:=h
 obtain⟨m,hn,hl⟩:=I.loc
 obtain⟨u,r,l⟩:=hl i x v hN e hv
 have fin:EP X pins σ Q u s:=⟨v,H,I,r,h⟩
 rcases l with⟨hk,hm⟩|⟨hk,c,hc,hcell⟩
 ·exact wpAny_Name (wpAny_loadName_local I.ok.kind hk hn hm fin) hd
 ·rcases hk with hk|hk
  ·exact wpAny_Name (wpAny_loadName_cell I.ok.kind hk hc hcell fin) hd
  ·exact wpAny_Name (wpAny_loadName_free I.ok.kind hk hc hcell fin hcd) hd
theorem cC0 {i j pos}:PE X (.Constant (.int i) j pos) (tC (.int i)):=λ_ _ _ H _ I h=>wpAny_Constant_int ⟨.int i,H,I.tok _,⟨_,rfl⟩,h⟩
theorem ew0 {b j pos}:PE X (.Constant (.bool b) j pos) (tC (.bl b)):=λ_ _ _ H _ I h=>Constant_bool ⟨.bl b,H,I,rfl,h⟩
theorem ep0 {j pos}:PE X (.Constant .none j pos) (tC .non):=λ_ _ _ H _ I h=>Constant_none ⟨.non,H,I,rfl,h⟩
theorem rE0 {x j pos}:PE X (.Constant (.str x) j pos) (tC (.str x)):=λ_ _ _ H _ I h=>Calls.Constant_str ⟨.str x,H,I.tok _,⟨_,rfl⟩,h⟩
def Gl (X:Cx)(x:Str):Prop:=X.env.kindOf x=some .globalImplicit
theorem hY0 {E:Value->Shared->Prop}{Q:Value->Shared->Prop}(I:Inv X pins σ H s)(hg:Gl X x)(hm:X.mg x=some u)(h:Q u s)
  (hd:(x==("__debug__" :Str))=false:=by decide):wpAny (model X.prog X.w) X.A (eval (.Name x pos) X.env) Q E s:=
 Calls.Name_function_global I.ok.kind hg (Calls.loadGlobal_global (by rw [I.ok.glob]; exact I.mod.glob.keeps I.bk) hm h) hd
theorem en0 {E:Value->Shared->Prop}{Q:Value->Shared->Prop}(I:Inv X pins σ H s)(hg:Gl X x)(hm:X.mg x=none)(hv:bootBuiltins x=some u)(h:Q u s)
  (hn:x≠ "__name__" :=by decide) (hd:(x==("__debug__" :Str))=false:=by decide):wpAny (model X.prog X.w) X.A (eval (.Name x pos) X.env) Q E s:=by
 obtain⟨mb,h1,h2⟩:=I.mod.blt
 exact Calls.Name_function_global I.ok.kind hg (Calls.loadGlobal_builtin (by rw [I.ok.glob]; exact I.mod.glob.keeps I.bk) hm (by rw [I.ok.blt]; exact h1.keeps I.bk) ((h2 x hn).trans hv) h) hd
theorem pL0 (hg:Gl X x)(hm:X.mg x=some u)(r:RelV v u)(hd:(x==("__debug__" :Str))=false:=by decide):PE X (.Name x pos) (tC v):=
 λ_ _ _ H _ I h=>hY0 I hg hm ⟨v,H,I,r,h⟩ hd
theorem px0 (hg:Gl X x)(hm:X.mg x=none)(hv:bootBuiltins x=some u)(r:RelV v u)(hn:x≠ "__name__" :=by decide) (hd:(x==("__debug__" :Str))=false:=by decide):PE X (.Name x pos) (tC v):=
 λ_ _ _ H _ I h=>en0 I hg hm hv ⟨v,H,I,r,h⟩ hn hd
variable {a b:Expr}{ta tb:TE}{pos:Pos}
def PC (X:Cx)(op:CmpOp)(a b:Expr)(t:TE):Prop:=
 ∀(pins:List (Addr × Obj)) (s:Shared) (σ:St) (H:Hp) (Q:VK),Inv X pins σ H s->t σ H Q->
  wpAny (model X.prog X.w) X.A (eval a X.env) (λv s₁=>wpAny (model X.prog X.w) X.A (eval b X.env) (λu s₂=>wpAny (model X.prog X.w) X.A (compareOp op v u) (EP X pins σ Q) X.xe s₂) X.xe s₁) X.xe s
theorem jv0 (b:Expr)(h:op≠ .In)(h2:op≠ .NotIn):behindInMarks op b=false:=by
 have e1:(op==CmpOp.In)=false:=by cases op<;>first|rfl|exact absurd rfl h
 have e2:(op==CmpOp.NotIn)=false:=by cases op<;>first|rfl|exact absurd rfl h2
 cases b<;>simp [behindInMarks,e1,e2]
def tIsN (ta:TE):TE:=λσ H Q=>ta σ H λx H1=>Q (.bl (decide (x=.non))) H1
def tNotN (ta:TE):TE:=λσ H Q=>ta σ H λx H1=>Q (.bl (!decide (x=.non))) H1
theorem RelV.none_iff (r:RelV x v):(v==Value.none)=decide (x=.non):=by
 cases x with
 |non=>cases r; rfl
 |bl _=>cases r; rfl
 |int _=>obtain⟨t,rfl⟩:=r; rfl
 |str _=>obtain⟨t,rfl⟩:=r; rfl
 |byt _=>obtain⟨t,rfl⟩:=r; rfl
 |flt _=>obtain⟨t,rfl⟩:=r; rfl
 |ref _=>cases r; rfl
 |ty _=>cases r; rfl
theorem oE0 {j pos'}(ha:PE X a ta):PC X .Is a (.Constant .none j pos') (tIsN ta):=by
 intro pins s σ H Q I h
 refine thn (ha pins s σ H _ I h) λv s1 ⟨x,H1,I1,r1,q1⟩=> ?_
 exact Constant_none (is_none_gen ⟨.bl _,H1,I1,by rw [r1.none_iff]; rfl,q1⟩)
theorem ie0 {j pos'}(ha:PE X a ta):PC X .IsNot a (.Constant .none j pos') (tNotN ta):=by
 intro pins s σ H Q I h
 refine thn (ha pins s σ H _ I h) λv s1 ⟨x,H1,I1,r1,q1⟩=> ?_
 exact Constant_none (isnot_none_gen ⟨.bl _,H1,I1,by rw [r1.none_iff]; rfl,q1⟩)
def tB (t:TE):TT:=λσ H Q=>t σ H λx H1=>∃c,x=.bl c/\Q c H1
theorem lF0 (h:PC X op a b t)(h1:behindInMarks op b=false:=by first|exact jv0 _ (by decide) (by decide)|rfl):PE X (.Compare a [op] [b] pos) t:=λpins s σ H Q I hw=>wpAny_Compare1 (h pins s σ H Q I hw) h1
theorem dL0 {op:CmpOp}{t:TE}(h:PC X op a b t)(h1:behindInMarks op b=false:=by first|exact jv0 _ (by decide) (by decide)|rfl):PT X (.Compare a [op] [b] pos) (tB t):=by
 intro pins s σ H Q I hw
 refine wpAny_isTrue_Compare1 (thn (h pins s σ H _ I hw) λv s1 h1=>thn h1 λu s2 h2=>thn h2 λc s3 ⟨x,H1,I1,r1,q1⟩=> ?_) h1
 obtain⟨d,rfl,q⟩:=q1
 cases r1
 exact Ah0 ⟨H1,I1,q⟩
theorem fB0 {e:Expr}{t:TE}(h:PE X e t)(he:∀whole,isTrue e X.env whole=(do let v<- whole; standAt e.pos; holding [v] (truthy v)):=by intro _; rfl):PT X e (tB t):=by
 intro pins s σ H Q I hw
 refine isTrue_plain (thn (h pins s σ H _ I hw) λv s1 ⟨x,H1,I1,r1,q1⟩=> ?_) (he _)
 obtain⟨d,rfl,q⟩:=q1
 cases r1
 exact Ah0 ⟨H1,I1,q⟩
variable {tA tB':TT}{rest:List Expr}
def tAnd (t u:TT):TT:=λσ H Q=>t σ H λc H1=>if c=true then u σ H1 Q else Q false H1
def tOr (t u:TT):TT:=λσ H Q=>t σ H λc H1=>if c=true then Q true H1 else u σ H1 Q
def tNot (t:TT):TT:=λσ H Q=>t σ H λc H1=>Q (!c) H1
theorem ph0 (ha:PT X a tA):PW X (.BoolOp .And [a] pos) tA:=by
 intro wh pins s σ H Q I h
 refine isTrue_and (thn (ha pins s σ H Q I h) λc s1 e=> ?_)
 cases c with
 |true=>exact isTrue_and_nil e
 |false=>exact e
theorem rY0 (ha:PT X a tA):PW X (.BoolOp .Or [a] pos) tA:=by
 intro wh pins s σ H Q I h
 refine isTrue_or (thn (ha pins s σ H Q I h) λc s1 e=> ?_)
 cases c with
 |false=>exact isTrue_or_nil e
 |true=>exact e
theorem rT0 (ha:PT X a tA)(hb:PW X (.BoolOp .And (b::rest) pos) tB'):PW X (.BoolOp .And (a::b::rest) pos) (tAnd tA tB'):=by
 intro wh pins s σ H Q I h
 refine isTrue_and (thn (ha pins s σ H _ I h) λc s1 ⟨H1,I1,q1⟩=> ?_)
 cases c with
 |true=>exact hb wh pins s1 σ H1 Q I1 q1
 |false=>exact⟨H1,I1,q1⟩
theorem pw_or (ha:PT X a tA)(hb:PW X (.BoolOp .Or (b::rest) pos) tB'):PW X (.BoolOp .Or (a::b::rest) pos) (tOr tA tB'):=by
 intro wh pins s σ H Q I h
 refine isTrue_or (thn (ha pins s σ H _ I h) λc s1 ⟨H1,I1,q1⟩=> ?_)
 cases c with
 |true=>exact⟨H1,I1,q1⟩
 |false=>exact hb wh pins s1 σ H1 Q I1 q1
theorem lg0 (ha:PT X a tA):PT X (.UnaryOp .Not a pos) (tNot tA):=by
 intro pins s σ H Q I h
 exact isTrue_not (ha pins s σ H (λc H1=>Q (!c) H1) I h)
def tAndV (ta tb:TE):TE:=λσ H Q=>ta σ H λx H1=>∃c,x=.bl c/\if c=true then tb σ H1 Q else Q (.bl false) H1
def tOrV (ta tb:TE):TE:=λσ H Q=>ta σ H λx H1=>∃c,x=.bl c/\if c=true then Q (.bl true) H1 else tb σ H1 Q
def tNotV (ta:TE):TE:=λσ H Q=>ta σ H λx H1=>∃c,x=.bl c/\Q (.bl (!c)) H1
theorem jS0 {op}(h:PE X a t):PE X (.BoolOp op [a] pos) t:=λpins s σ H Q I hw=>BoolOp_one (h pins s σ H Q I hw)
theorem iH0 (ha:PE X a ta)(hb:PE X (.BoolOp .And (b::rest) pos) tb):PE X (.BoolOp .And (a::b::rest) pos) (tAndV ta tb):=by
 intro pins s σ H Q I h
 refine BoolOp_and (thn (ha pins s σ H _ I h) λv s1 ⟨x,H1,I1,r1,q1⟩=> ?_)
 obtain⟨c,rfl,q1⟩:=q1
 cases r1
 refine Ah0 ?_
 cases c with
 |true=>exact hb pins s1 σ H1 Q I1 q1
 |false=>exact⟨.bl false,H1,I1,rfl,q1⟩
theorem pe_or (ha:PE X a ta)(hb:PE X (.BoolOp .Or (b::rest) pos) tb):PE X (.BoolOp .Or (a::b::rest) pos) (tOrV ta tb):=by
 intro pins s σ H Q I h
 refine BoolOp_or (thn (ha pins s σ H _ I h) λv s1 ⟨x,H1,I1,r1,q1⟩=> ?_)
 obtain⟨c,rfl,q1⟩:=q1
 cases r1
 refine Ah0 ?_
 cases c with
 |false=>exact hb pins s1 σ H1 Q I1 q1
 |true=>exact⟨.bl true,H1,I1,rfl,q1⟩
theorem rA0 (ha:PE X a ta):PE X (.UnaryOp .Not a pos) (tNotV ta):=by
 intro pins s σ H Q I h
 refine UnaryOp_ (thn (ha pins s σ H _ I h) λv s1 ⟨x,H1,I1,r1,q1⟩=> ?_)
 obtain⟨c,rfl,q1⟩:=q1
 cases r1
 exact not_of (Ah0 ⟨.bl (!c),H1,I1,rfl,q1⟩)
end
def SqL (K:Aa3)(H:Hp)(a:Addr)(xs:List V):Prop:=
 Rd H a (.lst xs)\/
  ∃(o:Obj) (its:Array Value) (n:Nat),K.lookup a=some o/\o.cls=.type "list" /\o.dict=none/\o.data=.seq its n/\its.size<=sizeLine/\Vals xs its.toList
def SqT (K:Aa3)(H:Hp)(a:Addr)(xs:List V):Prop:=
 Rd H a (.tup xs)\/
  ∃(o:Obj) (its:Array Value) (n:Nat),K.lookup a=some o/\o.cls=.type "tuple" /\o.data=.seq its n/\its.size<=sizeLine/\Vals xs its.toList
def absV:Value->Option V
 | .none=>some .non
 | .bool b=>some (.bl b)
 | .int i _=>some (.int i)
 | .str x _=>some (.str x)
 | .bytes b _=>some (.byt b)
 | .float b _=>some (.flt b)
 | .ref a=>some (.ref a)
 | .type n=>some (.ty n)
 |_=>none
theorem RelV.abs (r:RelV x u):absV u=some x:=by
 cases x with
 |non=>cases r; rfl
 |bl _=>cases r; rfl
 |int _=>obtain⟨t,rfl⟩:=r; rfl
 |str _=>obtain⟨t,rfl⟩:=r; rfl
 |byt _=>obtain⟨t,rfl⟩:=r; rfl
 |flt _=>obtain⟨t,rfl⟩:=r; rfl
 |ref _=>cases r; rfl
 |ty _=>cases r; rfl
theorem RelV.inj {x y:V}{u:Value}(r:RelV x u)(q:RelV y u):x=y:=Option.some.inj (r.abs.symm.trans q.abs)
theorem Vals.inj:∀{xs ys:List V} {us:List Value},Vals xs us->Vals ys us->xs=ys
 |_,_,_,.nil,.nil=>rfl
 |_,_,_,.cons r t,.cons r' t'=>by rw [r.inj r',Vals.inj t t']
section
variable {X:Cx}{pins:List (Addr × Obj)}{σ:St}{H:Hp}{s:Shared}{a:Addr}{xs ys:List V}
theorem SqL.of {K:Aa3}(h:H a=some (.lst xs)):SqL K H a xs:=.inl (.inl h)
theorem SqT.of {K:Aa3}(h:H a=some (.tup xs)):SqT K H a xs:=.inl (.inl h)
theorem Inv.list (I:Inv X pins σ H s)(h:SqL X.K H a xs):∃its:List Value,Vals xs its/\PlainL s.heap a its.toArray/\xs.length<=sizeLine:=by
 rcases h with h|⟨o,its,n,hk,hc,hd,hs,hz,r⟩
 ·obtain⟨z,its,n,r,e⟩:=h.ok I.hok
  exact⟨its,r,⟨_,n,e,rfl,rfl,rfl⟩,z⟩
 ·refine⟨its.toList,r,⟨o,n,I.kIn a o hk,hc,hd,by simpa using hs⟩,?_⟩
  have e:=r.length
  simp only [Am3] at e
  omega
theorem Inv.tuple (I:Inv X pins σ H s)(h:SqT X.K H a xs):∃its:List Value,Vals xs its/\IsTup s.heap a its.toArray/\xs.length<=sizeLine:=by
 rcases h with h|⟨o,its,n,hk,hc,hs,hz,r⟩
 ·obtain⟨z,its,r,p⟩:=h.ok I.hok
  exact⟨its,r,p.1,z⟩
 ·refine⟨its.toList,r,⟨o,I.kIn a o hk,hc,n,by simpa using hs⟩,?_⟩
  have e:=r.length
  simp only [Am3] at e
  omega
theorem Inv.list_inj (I:Inv X pins σ H s)(h:SqL X.K H a xs)(h':SqL X.K H a ys):xs=ys:=by
 obtain⟨its,r,⟨o,n,e,_,_,d⟩,_⟩:=I.list h
 obtain⟨its',r',⟨o',n',e',_,_,d'⟩,_⟩:=I.list h'
 rw [e] at e'; cases e'
 rw [d] at d'
 injection d' with d1 _
 have:its=its':=by simpa using congrArg Array.toList d1
 subst this
 exact r.inj r'
theorem Inv.tuple_inj (I:Inv X pins σ H s)(h:SqT X.K H a xs)(h':SqT X.K H a ys):xs=ys:=by
 obtain⟨its,r,⟨o,e,_,n,d⟩,_⟩:=I.tuple h
 obtain⟨its',r',⟨o',e',_,n',d'⟩,_⟩:=I.tuple h'
 rw [e] at e'; cases e'
 rw [d] at d'
 injection d' with d1 _
 have:its=its':=by simpa using congrArg Array.toList d1
 subst this
 exact r.inj r'
end
abbrev Cx.wish (X:Cx)(E:Value->Shared->Prop):Cx:={X with xe:=E}
abbrev Cx.nox (X:Cx):Cx:=X.wish λ_ _=>False
theorem Cx.Ok.wish {X:Cx}(ok:X.Ok)(E:Value->Shared->Prop):(X.wish E).Ok:=
 ⟨ok.mod,ok.kind,ok.glob,ok.blt,ok.above,ok.inj,ok.has,ok.cab,ok.hd,ok.frames,ok.stk,ok.exf,ok.bs,ok.bsz,ok.noex,ok.exfs,ok.funs,ok.frf⟩
theorem Cx.Ok.unwish {X:Cx}{E:Value->Shared->Prop}(ok:(X.wish E).Ok):X.Ok:=
 ⟨ok.mod,ok.kind,ok.glob,ok.blt,ok.above,ok.inj,ok.has,ok.cab,ok.hd,ok.frames,ok.stk,ok.exf,ok.bs,ok.bsz,ok.noex,ok.exfs,ok.funs,ok.frf⟩
section
variable {X:Cx}{pins:List (Addr × Obj)}{σ:St}{H:Hp}{s:Shared}{E:Value->Shared->Prop}
theorem Inv.wish (I:Inv X pins σ H s)(E:Value->Shared->Prop):Inv (X.wish E) pins σ H s:=⟨I.ok.wish E,I.os,I.bare,I.base,I.loc,I.cell,I.free,I.freeC,I.pin,I.hok,I.len⟩
theorem Inv.unwish (I:Inv (X.wish E) pins σ H s):Inv X pins σ H s:=⟨I.ok.unwish,I.os,I.bare,I.base,I.loc,I.cell,I.free,I.freeC,I.pin,I.hok,I.len⟩
theorem SP.unwish (h:SP (X.wish E) pins D f s'):SP X pins D f s':=by
 cases f with
 |next=>obtain⟨σ',H',I,q⟩:=h; exact⟨σ',H',I.unwish,q⟩
 |brk=>obtain⟨σ',H',I,q⟩:=h; exact⟨σ',H',I.unwish,q⟩
 |cont=>obtain⟨σ',H',I,q⟩:=h; exact⟨σ',H',I.unwish,q⟩
 |ret u=>obtain⟨v,σ',H',I,r,q⟩:=h; exact⟨v,σ',H',I.unwish,r,q⟩
theorem PSs.nox {st:List Stmt}{t:TS}(h:PSs X.nox st t):PSs X st t:=λpins s σ H D I hw=>
 Aj7 (h pins s σ H D (I.wish _) hw) (λ_ _ q=>q.unwish) λ_ _ z=>False.elim z
end
section
variable {X:Cx}{st:Stmt}{rest:List Stmt}{t u:TS}{e:Expr}{te:TE}{pos:Pos}
def tNext:TS:=λD σ H=>D.nx σ H
def tSeq (t u:TS):TS:=λD σ H=>t {D with nx:=u D} σ H
theorem bq0:PSs X [] tNext:=λ_ _ σ H _ I h=>Aq9 ⟨σ,H,I,h⟩
theorem am0 (h1:PS X st t)(h2:PSs X rest u):PSs X (st::rest) (tSeq t u):=by
 intro pins s σ H D I h
 refine wpAny_execs_cons (thn (h1 pins s σ H {D with nx:=u D} I h) λf s1 q=> ?_)
 cases f with
 |next=>
  obtain⟨σ',H',I',q⟩:=q
  exact h2 pins s1 σ' H' D I' q
 |ret v=>exact q
 |brk=>exact q
 |cont=>exact q
theorem aw0 (h1:PS X st t):PSs X [st] t:=by
 intro pins s σ H D I h
 refine wpAny_execs_cons (thn (h1 pins s σ H D I h) λf s1 q=> ?_)
 cases f with
 |next=>exact Aq9 q
 |ret v=>exact q
 |brk=>exact q
 |cont=>exact q
theorem Inv.quiet (I:Inv X pins σ H s):interactive X.env=false:=by simp [interactive,I.ok.kind]
def tDrop (te:TE):TS:=λD σ H=>te σ H λ_ H1=>D.nx σ H1
theorem bB0 (he:PE X e te)(hs:swapsWith e none pos.line X.env=pure false:=by rfl):PS X (.Expr e pos) (tDrop te):=by
 intro pins s σ H D I h
 exact wpAny_Expr_any (thn (he pins s σ H _ I h) λv s1 ⟨x,H1,I1,r1,q1⟩=>⟨σ,H1,I1,q1⟩) I.quiet hs
def tRet (te:TE):TS:=λD σ H=>te σ H D.rt
theorem aW0 (he:PE X e te):PS X (.Return (some e) pos) (tRet te):=by
 intro pins s σ H D I h
 exact wpAny_Return_some (thn (he pins s σ H _ I h) λv s1 ⟨x,H1,I1,r1,q1⟩=>⟨x,σ,H1,I1,r1,q1⟩)
def tIfS (c:TT)(t u:TS):TS:=λD σ H=>c σ H λb H1=>if b=true then t D σ H1 else u D σ H1
theorem cM0 {c:Expr}{a b:List Stmt}{tc:TT}(hc:PT X c tc)(ha:PSs X a t)(hb:PSs X b u):PS X (.If c a b pos) (tIfS tc t u):=by
 intro pins s σ H D I h
 refine wpAny_If (thn (hc pins s σ H _ I h) λd s1 ⟨H1,I1,q1⟩=> ?_)
 cases d with
 |true=>exact ha pins s1 σ H1 D I1 q1
 |false=>exact hb pins s1 σ H1 D I1 q1
def oV0:TS:=λ_ _ _=>False
theorem nn0:PS X st oV0:=λ_ _ _ _ _ _ h=>h.elim
theorem ng0:PSs X sts oV0:=λ_ _ _ _ _ _ h=>h.elim
end
abbrev TG:=V->St->Hp->(St->Hp->Prop)->Prop
abbrev TGs:=List V->St->Hp->(St->Hp->Prop)->Prop
def PG (X:Cx)(target:Expr)(t:TG):Prop:=
 ∀(pins:List (Addr × Obj)) (s:Shared) (σ:St) (H:Hp) (v:V) (u:Value) (Q:St->Hp->Prop),Inv X pins σ H s->RelV v u->t v σ H Q->
  wpAny (model X.prog X.w) X.A (assign target X.env u) (λ_ s'=>∃σ' H',Inv X pins σ' H' s'/\Q σ' H') X.xe s
def PGs (X:Cx)(ts:List Expr)(t:TGs):Prop:=
 ∀(pins:List (Addr × Obj)) (s:Shared) (σ:St) (H:Hp) (vs:List V) (us:List Value) (Q:St->Hp->Prop),Inv X pins σ H s->Vals vs us->t vs σ H Q->
  wpAny (model X.prog X.w) X.A (assignInOrder ((assignEach ts X.env).map (·.2)) us) (λ_ s'=>∃σ' H',Inv X pins σ' H' s'/\Q σ' H') X.xe s
section
variable {X:Cx}{pos:Pos}
def cr0 (i:Nat):TG:=λv σ H Q=>Q (σ.set i (some v)) H
theorem at0 (hN:X.N.Nodup)(hi:X.N[i]?=some x)(hx:Loc X.env.scope x)(hf:X.fn x=true\/ X.env.scope.names.lookup x=some .local:=by first|exact .inl rfl|exact .inr rfl|assumption):PG X (.Name x pos) (cr0 i):=by
 intro pins s σ H v u Q I r h
 exact wpAny_assign_Name (iN0 I hN hi hx r (λs' I'=>⟨_,H,I',h⟩) hf)
def gNil:TGs:=λvs σ H Q=>vs=[]/\Q σ H
def fx0 (t:TG)(u:TGs):TGs:=λvs σ H Q=>∃v r,vs=v::r/\t v σ H λσ' H'=>u r σ' H' Q
theorem dB0:PGs X [] gNil:=by
 intro pins s σ H vs us Q I r h
 obtain⟨e,h⟩:=h
 subst e
 cases r
 exact assignInOrder_nil ⟨σ,H,I,h⟩
theorem bn0 {e:Expr}{es:List Expr}{t:TG}{u:TGs}(h1:PG X e t)(h2:PGs X es u)
  (hs:(assignEach (e::es) X.env).map (·.2)=assign e X.env::(assignEach es X.env).map (·.2):=by rfl):PGs X (e::es) (fx0 t u):=by
 intro pins s σ H vs us Q I r h
 obtain⟨v,vr,e1,h⟩:=h
 subst e1
 cases r with
 |cons r rr=>
  rw [hs]
  refine assignInOrder_cons (thn (h1 pins s σ H _ _ _ I r h) λ_ s1 ⟨σ1,H1,I1,q1⟩=> ?_)
  exact h2 pins s1 σ1 H1 _ _ Q I1 rr q1
def gTup (K:Aa3)(n:Nat)(t:TGs):TG:=λv σ H Q=>∃a xs,v=.ref a/\SqT K H a xs/\xs.length=n/\t xs σ H Q
theorem eS0 (hc:X.calm=true)(h:PGs X es t)
  (hn:(assignEach es X.env).length=n:=by rfl) (hst:(assignEach es X.env).findIdx? (·.1)=none:=by rfl):PG X (.Tuple es k pos) (gTup X.K n t):=by
 intro pins s σ H v u Q I r hw
 obtain⟨a,xs,e1,hq,hl,hw⟩:=hw
 subst e1
 cases r
 obtain⟨its,rv,ht,hz⟩:=I.tuple hq
 refine assign_Tuple_tuple (I.ok.hd hc) ht (by simp [hn,<- hl,rv.length]) hst λh' hx=> ?_
 have I1:Inv X pins σ H {s with heap:=h'}:=I.kept (t':=s.toks) λb o e=>hx b o (Ad4 (Ab6 e)) e
 exact h pins _ σ H xs _ Q I1 (by simpa using rv) hw
def tAsg (te:TE)(g:TG):TS:=λD σ H=>te σ H λx H1=>g x σ H1 D.nx
theorem bA0 {i:Nat}{x:Str}{e:Expr}{te:TE}{pos':Pos}(hN:X.N.Nodup)(hi:X.N[i]?=some x)(hx:Loc X.env.scope x)(he:PE X e te)(hs:swapsWith e (some (.Name x pos')) pos.line X.env=pure false:=by rfl)(hf:X.fn x=true\/ X.env.scope.names.lookup x=some .local:=by first|exact .inl rfl|exact .inr rfl|assumption):
  PS X (.Assign [.Name x pos'] e pos) (tAsg te (cr0 i)):=by
 intro pins s σ H D I h
 refine wpAny_Assign_Name (thn (he pins s σ H _ I h) λv s1 ⟨y,H1,I1,r1,q1⟩=> ?_) hs
 exact iN0 I1 hN hi hx r1 (λs2 I2=>⟨_,H1,I2,q1⟩) hf
def rV0 (c:TT)(tb:TS):TS:=λD σ H=>∃W:Nat->St->Hp->Prop,(∃m,W m σ H)/\∀m σ H,W m σ H->
 c σ H λb H1=>if b=true then∃N:St->Hp->Prop,(∀σ' H',N σ' H'->∃m',m'<m/\W m' σ' H')/\tb {D with nx:=N,ct:=N,bk:=D.nx} σ H1 else D.nx σ H1
theorem dD0 {c:Expr}{body:List Stmt}{tc:TT}{tb:TS}(hp:PassesOwn (model X.prog X.w) X.A X.env X.xe)(hc:PT X c tc)(hb:PSs X body tb):PS X (.While c body [] pos) (rV0 tc tb):=by
 intro pins s σ H D I h
 obtain⟨W,⟨m0,w0⟩,turn⟩:=h
 refine wpAny_While (codeAny_whileLoop (λn s'=>∃σ' H',Inv X pins σ' H' s'/\W n σ' H') ?_ m0 ⟨σ,H,I,w0⟩)
 rintro n s1 ⟨σ1,H1,I1,w1⟩
 refine Al0 hp (thn (hc pins s1 σ1 H1 _ I1 (turn n σ1 H1 w1)) λb s2 ⟨H2,I2,q2⟩=> ?_)
 cases b with
 |true=>
  obtain⟨N,hN,q2⟩:=q2
  rw [if_pos rfl]
  refine Al0 hp (thn (hb pins s2 σ1 H2 _ I2 q2) λf s3 q3=> ?_)
  cases f with
  |next=>
   obtain⟨σ3,H3,I3,n3⟩:=q3
   obtain⟨m',hm,w3⟩:=hN σ3 H3 n3
   exact⟨m',hm,σ3,H3,I3,w3⟩
  |cont=>
   obtain⟨σ3,H3,I3,n3⟩:=q3
   obtain⟨m',hm,w3⟩:=hN σ3 H3 n3
   exact⟨m',hm,σ3,H3,I3,w3⟩
  |brk=>exact q3
  |ret v=>exact q3
 |false=>
  rw [if_neg Ab4]
  exact Aq9 ⟨σ1,H2,I2,q2⟩
end
structure It where
 go:Nat->Hp->Prop
 yld:Nat->Hp->V->Hp->Prop
 stop:Nat->Hp->Prop
def FpOk (X:Cx)(pins:List (Addr × Obj))(H:Hp)(b:Addr):Prop:=
 H b=none/\b≠X.env.locals/\b∉X.fs/\(b∈X.ex\/ X.s₀.heap.objs.size<=b)/\(∀x c,X.env.cells.lookup x=some c->c≠b)/\∀p∈X.pn++pins,p.1≠b
theorem Inv.fpOk {H H':Hp}(I:Inv X pins σ H s)(hb:s.heap.objs.size<=b)(hn:H' b=none):FpOk X pins H' b:=by
 refine⟨hn,Al7 (Ad1 I.lt hb),I.nofs hb,.inr (Ac6 I.sz hb),λx c e z=> ?_,λp hp z=> ?_⟩
 ·obtain⟨v,q⟩:=I.cell x c e
  exact absurd (Ad1 q.lt (by rw [z]; exact hb)) (Ai6 _)
 ·exact absurd (Ad1 (Ab6 (I.pin p hp).1) (by rw [z]; exact hb)) (Ai6 _)
structure Turn (P:Program)(w:World)(K:Aa3)(tg:Expr)(J:It)(fp:List Addr)(it:Addr)(tn:Nat->Heap->Prop):Prop where
 mem:it∈fp
 obj:∀i h,tn i h->∀b∈fp,∃o,h.get? b=some o/\∀v,o.data≠ .cell v
 keep:∀i h h',tn i h->(∀b∈fp,∀o,h.get? b=some o->h'.get? b=some o)->tn i h'
 item:∀(X:Cx),X.prog=P->X.w=w->X.K=K->X.calm=true->∀(i:Nat) (pins:List (Addr × Obj)) (s:Shared) (σ:St) (H:Hp) (E:Value->Shared->Prop),Inv X pins σ H s->(∀b∈fp,FpOk X pins H b)->tn i s.heap->J.go i H->
  wpAny (model P w) X.A (pyNext (.ref it)) (λr s1=>∃u,r=some u/\
   wpAny (model P w) X.A (letOwnedTupleGo tg (.ref it) u) (λ_ s2=>∃x H',Inv X pins σ H' s2/\RelV x u/\J.yld i H x H'/\tn (i+1) s2.heap/\∀b∈fp,H' b=none) E s1) E s
 done:∀(X:Cx),X.prog=P->X.w=w->X.K=K->X.calm=true->∀(i:Nat) (pins:List (Addr × Obj)) (s:Shared) (σ:St) (H:Hp) (E:Value->Shared->Prop),Inv X pins σ H s->(∀b∈fp,FpOk X pins H b)->tn i s.heap->J.stop i H->
  wpAny (model P w) X.A (pyNext (.ref it)) (λr s1=>r=none/\Inv X pins σ H s1) E s
 self:∀(A:Around) (i:Nat) (s:Shared) (Q:Value->Shared->Prop) (E:Value->Shared->Prop),tn i s.heap->Q (.ref it) s->wpAny (model P w) A (pyIter (.ref it)) Q E s
abbrev TI:=St->Hp->(It->Hp->Prop)->Prop
def PIE (X:Cx)(pins:List (Addr × Obj))(σ:St)(tg:Expr)(R:It->Hp->Prop)(itv:Value)(s2:Shared):Prop:=
 ∃(it:Addr) (fp:List Addr) (tn:Nat->Heap->Prop) (J:It) (H':Hp),itv=.ref it/\Inv X pins σ H' s2/\Turn X.prog X.w X.K tg J fp it tn/\tn 0 s2.heap/\(∀b∈fp,FpOk X pins H' b)/\R J H'
def PI (X:Cx)(tg iter:Expr)(wi:TI):Prop:=
 ∀(pins:List (Addr × Obj)) (s:Shared) (σ:St) (H:Hp) (R:It->Hp->Prop),Inv X pins σ H s->wi σ H R->
  wpAny (model X.prog X.w) X.A (eval iter X.env) (λv s1=>wpAny (model X.prog X.w) X.A (pyIter v) (PIE X pins σ tg R) X.xe s1) X.xe s
theorem mE0 {E:Value->Shared->Prop}{s:Shared}{Q:Unit->Shared->Prop}(ho:s.heap.get? it=some o)(hc:o.cls=.type n)(hd:o.data=.fields vs)
    (hn:["enumerate", "zip", "dict_itemiterator", "dict_reverseitemiterator", "odict_iterator", "itertools.zip_longest", "itertools.pairwise"].contains n=false) (hQ:Q () s):wpAny M A (letOwnedTupleGo tg (.ref it) u) Q E s:=by
  unfold letOwnedTupleGo
  cases tg<;>first
    |exact Aa8 hQ
    | (cases u<;>first
        |exact Aa8 hQ
        | (refine Aa0 (wpAny_load ho ?_)
           rw [hc,hd]
           show wpAny M A (if(["enumerate", "zip", "dict_itemiterator", "dict_reverseitemiterator", "odict_iterator", "itertools.zip_longest", "itertools.pairwise"].contains n && vs[0]?==some (rawInt _))=true then _ else _) Q E s
           rw [if_neg (by intro h; rw [hn,Ai1] at h; cases h)]
           exact Aa8 hQ))
def Itl (K:Aa3)(a:Addr):It:=
 ⟨λi H=>∃xs x,SqL K H a xs/\xs[i]?=some x,λi H x H'=>H'=H/\∀xs,SqL K H a xs->xs[i]?=some x,λi H=>∃xs,SqL K H a xs/\xs.length<=i⟩
def Itt (K:Aa3)(a:Addr):It:=
 ⟨λi H=>∃xs x,SqT K H a xs/\xs[i]?=some x,λi H x H'=>H'=H/\∀xs,SqT K H a xs->xs[i]?=some x,λi H=>∃xs,SqT K H a xs/\xs.length<=i⟩
def Itr (lo:Int)(n:Nat):It:=⟨λi _=>i<n,λi H x H'=>H'=H/\x=.int (lo+i),λi _=>n<=i⟩
theorem mu0 {P:Program}{w:World}{K:Aa3}{tg:Expr}(a it:Addr):Turn P w K tg (Itl K a) [it] it (λi h=>h.IsListIter it a i) where
 mem:=by simp
 obj:=λi h st b hb=>by
  have e:b=it:=by simpa using hb
  subst e
  obtain⟨o,e,c,d⟩:=st
  exact⟨o,e,λv z=>by rw [d] at z; cases z⟩
 keep:=λi h h' st k=>st.at λo e=>k it (by simp) o e
 item:=by
  intro X hP hw hK hc i pins s σ H E I hf st hg
  subst hP hw hK
  obtain⟨xs,x,hq,hx⟩:=hg
  obtain⟨its,rv,p,hz⟩:=I.list hq
  obtain⟨u,hu,ru⟩:=rv.get hx
  obtain⟨f0,f1,f2,f3,f4,f5⟩:=hf it (by simp)
  refine wpAny_pyNext_list_item st p.isList (x:=u) (by simpa using hu) λh' st' sb=> ?_
  have I1:Inv X pins σ H {s with heap:=h'}:=I.turned (t':=s.toks) (λb o hb e=>(sb.2 b hb).trans e) f0 f1 f3 f4 f5
  obtain⟨o,e,c,d⟩:=id st'
  exact⟨u,rfl,mE0 (s:={s with heap:=h'}) e c d (by decide) ⟨x,H,I1,ru,⟨rfl,λys hy=>by rw [I.list_inj hy hq]; exact hx⟩,st',λb hb=>(hf b hb).1⟩⟩
 done:=by
  intro X hP hw hK hc i pins s σ H E I hf st hg
  subst hP hw hK
  obtain⟨xs,hq,hx⟩:=hg
  obtain⟨its,rv,p,hz⟩:=I.list hq
  obtain⟨f0,f1,f2,f3,f4,f5⟩:=hf it (by simp)
  have hl:=rv.length
  exact wpAny_pyNext_list_end (I.ok.hd hc) st p.isList (by simp; omega) λh' eb=>⟨rfl,I.turned (t':=s.toks) (λb o hb e=>eb b o hb e) f0 f1 f3 f4 f5⟩
 self:=λ_ _ _ _ _ st h=>wpAny_pyIter_listiter st h
theorem kG0 {P:Program}{w:World}{K:Aa3}{tg:Expr}(a it:Addr):Turn P w K tg (Itt K a) [it] it (λi h=>h.IsTupleIter it a i) where
 mem:=by simp
 obj:=λi h st b hb=>by
  have e:b=it:=by simpa using hb
  subst e
  obtain⟨o,e,c,d⟩:=st
  exact⟨o,e,λv z=>by rw [d] at z; cases z⟩
 keep:=λi h h' st k=>st.at λo e=>k it (by simp) o e
 item:=by
  intro X hP hw hK hc i pins s σ H E I hf st hg
  subst hP hw hK
  obtain⟨xs,x,hq,hx⟩:=hg
  obtain⟨its,rv,p,hz⟩:=I.tuple hq
  obtain⟨u,hu,ru⟩:=rv.get hx
  obtain⟨f0,f1,f2,f3,f4,f5⟩:=hf it (by simp)
  refine wpAny_pyNext_tuple_item st (show s.heap.IsTuple a its.toArray from p) (x:=u) (by simpa using hu) λh' st' sb=> ?_
  have I1:Inv X pins σ H {s with heap:=h'}:=I.turned (t':=s.toks) (λb o hb e=>(sb.2 b hb).trans e) f0 f1 f3 f4 f5
  obtain⟨o,e,c,d⟩:=id st'
  exact⟨u,rfl,mE0 (s:={s with heap:=h'}) e c d (by decide) ⟨x,H,I1,ru,⟨rfl,λys hy=>by rw [I.tuple_inj hy hq]; exact hx⟩,st',λb hb=>(hf b hb).1⟩⟩
 done:=by
  intro X hP hw hK hc i pins s σ H E I hf st hg
  subst hP hw hK
  obtain⟨xs,hq,hx⟩:=hg
  obtain⟨its,rv,p,hz⟩:=I.tuple hq
  obtain⟨f0,f1,f2,f3,f4,f5⟩:=hf it (by simp)
  have hl:=rv.length
  exact wpAny_pyNext_tuple_end (I.ok.hd hc) st (show s.heap.IsTuple a its.toArray from p) (by simp; omega) λh' eb=>⟨rfl,I.turned (t':=s.toks) (λb o hb e=>eb b o hb e) f0 f1 f3 f4 f5⟩
 self:=λ_ _ _ _ _ st h=>wpAny_pyIter_tupleiter st h
theorem kI0 {P:Program}{w:World}{K:Aa3}{tg:Expr}(it:Addr)(lo:Int)(n:Nat):Turn P w K tg (Itr lo n) [it] it (λi h=>IsRangeIter h it (lo+(i:Nat)*1) ((n:Int) - (i:Nat)) 1) where
 mem:=by simp
 obj:=λi h st b hb=>by
  have e:b=it:=by simpa using hb
  subst e
  exact⟨_,st,λv z=>by
   have z':Data.fields _=Data.cell v:=z
   cases z'⟩
 keep:=λi h h' st k=>k it (by simp) _ st
 item:=by
  intro X hP hw hK hc i pins s σ H E I hf st hg
  subst hP hw hK
  obtain⟨f0,f1,f2,f3,f4,f5⟩:=hf it (by simp)
  have W:=Walks.range (prog:=X.prog) (w:=X.w) (I.ok.hd hc) it lo 1 n
  refine W.item i s _ _ hg st λv h' tk hv st' kk=> ?_
  obtain⟨t,rfl⟩:=hv
  have I1:Inv X pins σ H {s with heap:=h',toks:=tk}:=I.turned (λb o hb e=>kk b o (by simpa using hb) e) f0 f1 f3 f4 f5
  refine⟨_,rfl,mE0 (s:={s with heap:=h',toks:=tk}) (n:= "range_iterator") st' rfl rfl (by decide) ⟨.int (lo+i),H,I1,⟨t,?_⟩,⟨rfl,rfl⟩,st',λb hb=>(hf b hb).1⟩⟩
  rw [Int.mul_one]
 done:=by
  intro X hP hw hK hc i pins s σ H E I hf st hg
  subst hP hw hK
  obtain⟨f0,f1,f2,f3,f4,f5⟩:=hf it (by simp)
  exact wpAny_pyNext_range_end (I.ok.hd hc) st (by have:n<=i:=hg; omega) λh' eb=>⟨rfl,I.turned (t':=s.toks) (λb o hb e=>eb b o hb e) f0 f1 f3 f4 f5⟩
 self:=λ_ _ _ _ _ st h=>wpAny_pyIter_rangeiter st h
section
variable {X:Cx}{tg:Expr}
def iList (K:Aa3)(tl:TE):TI:=λσ H R=>tl σ H λx H1=>∃a,x=.ref a/\(∃xs,SqL K H1 a xs)/\R (Itl K a) H1
def iTup (K:Aa3)(tl:TE):TI:=λσ H R=>tl σ H λx H1=>∃a,x=.ref a/\(∃xs,SqT K H1 a xs)/\R (Itt K a) H1
theorem dy0 {l:Expr}{tl:TE}(hl:PE X l tl):PI X tg l (iList X.K tl):=by
 intro pins s σ H R I h
 refine thn (hl pins s σ H _ I h) λv s1 ⟨x,H1,I1,r1,q1⟩=> ?_
 obtain⟨a,e,⟨xs,hq⟩,q⟩:=q1
 subst e
 cases r1
 obtain⟨its,rv,p,hz⟩:=I1.list hq
 refine Ao9 p.isList ?_
 refine⟨s1.heap.objs.size,[s1.heap.objs.size],_,_,H1,rfl,I1.kept (t':=s1.toks) λb o e=>Aa7 _ e,mu0 a _,⟨_,Ab7 _ rfl,rfl,rfl⟩,λb hb=> ?_,q⟩
 have e:b=s1.heap.objs.size:=by simpa using hb
 subst e
 exact I1.fpOk (Ab1 _) (I1.hok.fresh (Ab1 _))
theorem rs0 {l:Expr}{tl:TE}(hl:PE X l tl):PI X tg l (iTup X.K tl):=by
 intro pins s σ H R I h
 refine thn (hl pins s σ H _ I h) λv s1 ⟨x,H1,I1,r1,q1⟩=> ?_
 obtain⟨a,e,⟨xs,hq⟩,q⟩:=q1
 subst e
 cases r1
 obtain⟨its,rv,p,hz⟩:=I1.tuple hq
 refine Ao3 (show s1.heap.IsTuple a its.toArray from p) ?_
 refine⟨s1.heap.objs.size,[s1.heap.objs.size],_,_,H1,rfl,I1.kept (t':=s1.toks) λb o e=>Aa7 _ e,kG0 a _,⟨_,Ab7 _ rfl,rfl,rfl⟩,λb hb=> ?_,q⟩
 have e:b=s1.heap.objs.size:=by simpa using hb
 subst e
 exact I1.fpOk (Ab1 _) (I1.hok.fresh (Ab1 _))
theorem no0 {pins:List (Addr × Obj)}{σ:St}{H:Hp}{s:Shared}{R:It->Hp->Prop}{E:Value->Shared->Prop}{lo hi:Int}{t u v:Tok}{tk:Nat}(I:Inv X pins σ H s)(h1: -(2^62)<=lo)(h2:lo<2^62)(h3: -(2^62)<=hi)(h4:hi<2^62)
  (q:R (Itr lo (hi - lo).toNat) H):wpAny (model X.prog X.w) X.A (pyIter (.ref s.heap.objs.size)) (PIE X pins σ tg R) E {s with heap:=s.heap.push {cls:=.type "range",data:=.fields #[.int lo t,.int hi u,.int 1 v]},toks:=tk}:=by
 refine wpAny_pyIter_range (IsRange.new ..) (small_one h1 h2 h3 h4) ?_
 have I1:Inv X pins σ H {s with heap:=s.heap.push {cls:=.type "range",data:=.fields #[.int lo t,.int hi u,.int 1 v]},toks:=tk}:=I.kept λb o e=>Aa7 _ e
 refine⟨(s.heap.push {cls:=.type "range",data:=.fields #[.int lo t,.int hi u,.int 1 v]}).objs.size,[(s.heap.push {cls:=.type "range",data:=.fields #[.int lo t,.int hi u,.int 1 v]}).objs.size],_,_,H,rfl,
  I1.kept (t':=tk) λb o e=>Aa7 _ e,kI0 _ lo (hi - lo).toNat,?_,λb hb=> ?_,q⟩
 ·have e1:lo+((0:Nat):Int)*1=lo:=by simp
  have e2:(((hi - lo).toNat:Nat):Int) - ((0:Nat):Int)=Builtin.Range.rangeSize lo hi 1:=by rw [rangeSize_one]; split<;>omega
  show IsRangeIter _ _ (lo+((0:Nat):Int)*1) ((((hi - lo).toNat:Nat):Int) - ((0:Nat):Int)) 1
  rw [e1,e2]
  exact Ab7 _ rfl
 ·have e:b=(s.heap.push {cls:=.type "range",data:=.fields #[.int lo t,.int hi u,.int 1 v]}).objs.size:=by simpa using hb
  subst e
  exact I1.fpOk (Ab1 _) (I1.hok.fresh (Ab1 _))
def iRng1 (ta:TA):TI:=λσ H R=>ta σ H λvs H1=>∃j:Int,vs=[.int j]/\ -(2^62)<=j/\j<2^62/\R (Itr 0 j.toNat) H1
theorem eX0 {a:Expr}{ta:TA}{p pos:Pos}(hg:Gl X "range") (hm:X.mg "range" =none) (ha:PA X [a] ta) (hs:starEach [a] X.env=[(false,eval a X.env)]:=by rfl):PI X tg (.Call (.Name "range" p) [a] [] pos) (iRng1 ta):=by
 intro pins s σ H R I h
 refine Call_ (en0 I hg hm boot_range (Ak8 (thn (ha pos pins s σ H _ I h) λus s1 ⟨vs,H1,I1,r1,q1⟩=> ?_) hs rfl))
 obtain⟨j,e,q1,q2,q⟩:=q1
 subst e
 cases r1 with
 |cons r rr=>
  cases rr
  obtain⟨t,rfl⟩:=r
  exact call_range_1 (no0 I1 (by omega) (by omega) q1 q2 (by simpa using q))
def tFor (wi:TI)(g:TG)(tb:TS):TS:=λD σ H=>wi σ H λJ H1=>∃W:Nat->Nat->St->Hp->Prop,(∃m,W 0 m σ H1)/\∀i m σ H,W i m σ H->
 (J.stop i H/\D.nx σ H)\/ (J.go i H/\∃N:St->Hp->Prop,(∀σ' H',N σ' H'->∃m',m'<m/\W (i+1) m' σ' H')/\∀x H',J.yld i H x H'->g x σ H' λσ2 H2=>tb {D with nx:=N,ct:=N,bk:=D.nx} σ2 H2)
def eI0 (fp:List Addr)(h:Heap):List (Addr × Obj):=fp.filterMap λb=>(h.get? b).map λo=>(b,o)
theorem ck0 {h:Heap}(hb:b∈fp)(e:h.get? b=some o):(b,o)∈eI0 fp h:=List.mem_filterMap.mpr ⟨b,hb,by rw [e]; rfl⟩
theorem gE0 (hp:p∈eI0 fp h):p.1∈fp/\h.get? p.1=some p.2:=by
 obtain⟨b,hb,e⟩:=List.mem_filterMap.mp hp
 cases q:h.get? b with
 |none=>rw [q] at e; cases e
 |some o=>
  rw [q] at e
  have e':(b,o)=p:=Option.some.inj e
  subst e'
  exact⟨hb,q⟩
theorem Inv.pinned (I:Inv X pins σ H s)(hf:∀b∈fp,FpOk X pins H b)(ho:∀b∈fp,∃o,s.heap.get? b=some o/\∀v,o.data≠ .cell v):Inv X (pins++eI0 fp s.heap) σ H s:=
 I.pins_of λp hp=>(Ad8.mp hp).elim (λz=>I.pin p (Ac1 _ z)) λz=>by
  obtain⟨hb,e⟩:=gE0 z
  obtain⟨f0,f1,f2,_⟩:=hf p.1 hb
  obtain⟨o,e',d⟩:=ho p.1 hb
  rw [e] at e'; cases e'
  exact⟨e,f0,f1,f2,d⟩
theorem Inv.unpinned (I:Inv X (pins++pl) σ H s):Inv X pins σ H s:=I.pins_of λp hp=>I.pin p (Ac1 _ (Ag2 _ hp))
theorem fL0 (hp:PassesOwn (model X.prog X.w) X.A X.env X.xe)(hc:X.calm=true)(hi:PI X tg iter wi)(hg:PG X tg g)(hb:PSs X body tb)
  (hs:∀x,foldedSetIterable iter X.env x=pure x:=by intro _; rfl):PS X (.For tg iter body [] pos) (tFor wi g tb):=by
 intro pins s σ H D I h
 refine wpAny_For (thn (hi pins s σ H _ I h) λv s1 h1=>thn h1 λitv s2 h2=> ?_) hs
 obtain⟨it,fp,tn,J,H2,e,I2,T,st2,f2,W,⟨m0,w0⟩,turn⟩:=h2
 subst e
 -- what stays true of the iterator's objects through the loop
 have stat:∀{H':Hp},(∀b∈fp,H' b=none)->∀b∈fp,FpOk X pins H' b:=λhn b hb=>⟨hn b hb,(f2 b hb).2⟩
 refine codeAny_forLoop_any (λn s'=>∃i σ' H',Inv X pins σ' H' s'/\tn i s'.heap/\(∀b∈fp,H' b=none)/\W i n σ' H') ?_ m0 ⟨0,σ,H2,I2,st2,λb hb=>(f2 b hb).1,w0⟩
 rintro n s3 ⟨i,σ3,H3,I3,st3,fr3,w3⟩
 rcases turn i n σ3 H3 w3 with⟨stop,qn⟩|⟨go,N,hN,step⟩
 ·refine Al0 hp (thn (T.done X rfl rfl rfl hc i pins s3 σ3 H3 X.xe I3 (stat fr3) st3 stop) λr s4 ⟨hr,I4⟩=> ?_)
  subst hr
  exact Aq9 ⟨σ3,H3,I4,qn⟩
 ·refine Al0 hp (thn (T.item X rfl rfl rfl hc i pins s3 σ3 H3 X.xe I3 (stat fr3) st3 go) λr s4 ⟨u,hr,h4⟩=> ?_)
  subst hr
  refine Al0 hp (thn h4 λ_ s5 ⟨x,H5,I5,r5,y5,st5,fr5⟩=> ?_)
  have I5':=I5.pinned (stat fr5) (T.obj _ _ st5)
  refine Al0 hp (thn (hg _ s5 σ3 H5 x u _ I5' r5 (step x H5 y5)) λ_ s6 ⟨σ6,H6,I6,q6⟩=> ?_)
  refine Al0 hp (thn (hb _ s6 σ6 H6 _ I6 q6) λf s7 q7=> ?_)
  have again:∀{σ7:St} {H7:Hp},Inv X (pins++eI0 fp s5.heap) σ7 H7 s7->N σ7 H7->∃m,m<n/\∃i σ' H',Inv X pins σ' H' s7/\tn i s7.heap/\(∀b∈fp,H' b=none)/\W i m σ' H':=λ{σ7 H7} I7 n7=>by
   obtain⟨m',hm,w7⟩:=hN σ7 H7 n7
   refine⟨m',hm,i+1,σ7,H7,I7.unpinned,T.keep _ _ _ st5 λb hb o e=>(I7.pin (b,o) (Ac1 _ (Ac1 _ (ck0 hb e)))).1,λb hb=> ?_,w7⟩
   obtain⟨o,e,d⟩:=T.obj _ _ st5 b hb
   exact(I7.pin (b,o) (Ac1 _ (Ac1 _ (ck0 hb e)))).2.1
  cases f with
  |next=>obtain⟨σ7,H7,I7,n7⟩:=q7; exact again I7 n7
  |cont=>obtain⟨σ7,H7,I7,n7⟩:=q7; exact again I7 n7
  |brk=>obtain⟨σ7,H7,I7,q7⟩:=q7; exact⟨σ7,H7,I7.unpinned,q7⟩
  |ret v=>obtain⟨x7,σ7,H7,I7,r7,q7⟩:=q7; exact⟨x7,σ7,H7,I7.unpinned,r7,q7⟩
end
theorem mA0 {lo:Int}{n:Nat}{g:TG}{tb:TS}{D:Ends}{σ:St}{H:Hp}(Pv:Nat->St->Hp->Prop)(h0:Pv 0 σ H)
  (hs:∀i σ H,i<n->Pv i σ H->g (.int (lo+i)) σ H λσ2 H2=>tb {D with nx:=Pv (i+1),ct:=Pv (i+1),bk:=D.nx} σ2 H2) (hd:∀σ H,Pv n σ H->D.nx σ H):
  ∃W:Nat->Nat->St->Hp->Prop,(∃m,W 0 m σ H)/\∀i m σ H,W i m σ H->
   ((Itr lo n).stop i H/\D.nx σ H)\/ ((Itr lo n).go i H/\∃N:St->Hp->Prop,(∀σ' H',N σ' H'->∃m',m'<m/\W (i+1) m' σ' H')/\∀x H',(Itr lo n).yld i H x H'->g x σ H' λσ2 H2=>tb {D with nx:=N,ct:=N,bk:=D.nx} σ2 H2):=by
 refine⟨λi m σ H=>m=n - i/\i<=n/\Pv i σ H,⟨n,by simp,Ae5 _,h0⟩,?_⟩
 rintro i m σ H ⟨rfl,hi,p⟩
 by_cases hlt:i<n
 ·refine .inr ⟨hlt,Pv (i+1),λσ' H' p'=>⟨n - (i+1),by omega,rfl,hlt,p'⟩,λx H' y=> ?_⟩
  obtain⟨e,y⟩:=y
  subst e y
  exact hs i σ _ hlt p
 ·have e:i=n:=by omega
  subst e
  exact .inl ⟨Ab1 _,hd σ H p⟩
abbrev R2:=V->V->Hp->VK->Prop
def OpR (X:Cx)(f:Value->Value->Sem Value)(r:R2):Prop:=
 ∀(pins:List (Addr × Obj)) (s:Shared) (σ:St) (H:Hp) (x y:V) (v u:Value) (Q:VK),Inv X pins σ H s->RelV x v->RelV y u->r x y H Q->
  wpAny (model X.prog X.w) X.A (f v u) (EP X pins σ Q) X.xe s
def UnR (X:Cx)(f:Value->Sem Value)(r:V->Hp->VK->Prop):Prop:=
 ∀(pins:List (Addr × Obj)) (s:Shared) (σ:St) (H:Hp) (x:V) (v:Value) (Q:VK),Inv X pins σ H s->RelV x v->r x H Q->
  wpAny (model X.prog X.w) X.A (f v) (EP X pins σ Q) X.xe s
def ds0 (X:Cx)(f:Value)(r:List V->Hp->VK->Prop):Prop:=
 ∀(pins:List (Addr × Obj)) (s:Shared) (σ:St) (H:Hp) (xs:List V) (us:List Value) (Q:VK),Inv X pins σ H s->Vals xs us->r xs H Q->
  wpAny (model X.prog X.w) X.A (call f us) (EP X pins σ Q) X.xe s
def TruR (X:Cx)(r:V->Hp->(Bool->Hp->Prop)->Prop):Prop:=
 ∀(pins:List (Addr × Obj)) (s:Shared) (σ:St) (H:Hp) (x:V) (v:Value) (Q:Bool->Hp->Prop),Inv X pins σ H s->RelV x v->r x H Q->
  wpAny (model X.prog X.w) X.A (truthy v) (TP X pins σ Q) X.xe s
def tOp (r:R2)(ta tb:TE):TE:=λσ H Q=>ta σ H λx H1=>tb σ H1 λy H2=>r x y H2 Q
def tUn (r:V->Hp->VK->Prop)(ta:TE):TE:=λσ H Q=>ta σ H λx H1=>r x H1 Q
def rI (C:Int->Int->Prop)(g:Int->Int->V):R2:=λx y H Q=>∃i j,x=.int i/\y=.int j/\C i j/\Q (g i j) H
def rI0 (g:Int->Int->V):R2:=λx y H Q=>∃i j,x=.int i/\y=.int j/\Q (g i j) H
def rU (g:Int->V):V->Hp->VK->Prop:=λx H Q=>∃i,x=.int i/\Q (g i) H
section
variable {X:Cx}{a b c:Expr}{ta tb tc:TE}{pos:Pos}
theorem binT (ha:PE X a ta)(hb:PE X b tb){R:V->V->Hp->Prop}(I:Inv X pins σ H s)
  (h:ta σ H λx H1=>tb σ H1 λy H2=>R x y H2) {Q:Value->Shared->Prop} {f:Value->Value->Sem Value}
  (hf:∀v u s2 x y H2,Inv X pins σ H2 s2->RelV x v->RelV y u->R x y H2->wpAny (model X.prog X.w) X.A (f v u) Q X.xe s2):
  wpAny (model X.prog X.w) X.A (eval a X.env) (λv s₁=>wpAny (model X.prog X.w) X.A (eval b X.env) (λu s₂=>wpAny (model X.prog X.w) X.A (f v u) Q X.xe s₂) X.xe s₁) X.xe s:=by
 refine thn (ha pins s σ H _ I h) λv s1 ⟨x,H1,I1,r1,q1⟩=> ?_
 refine thn (hb pins s1 σ H1 _ I1 q1) λu s2 ⟨y,H2,I2,r2,q2⟩=> ?_
 exact hf v u s2 x y H2 I2 r1 r2 q2
theorem kV0 (ho:OpR X (binaryOp op) r)(ha:PE X a ta)(hb:PE X b tb):PE X (.BinOp a op b pos) (tOp r ta tb):=by
 intro pins s σ H Q I h
 exact wpAny_BinOp (binT ha hb I h λv u s2 x y H2 I2 rx ry q=>ho pins s2 σ H2 x y v u Q I2 rx ry q)
theorem pe_un {r:V->Hp->VK->Prop}(ho:UnR X (unaryOp op) r)(ha:PE X a ta):PE X (.UnaryOp op a pos) (tUn r ta):=by
 intro pins s σ H Q I h
 exact UnaryOp_ (thn (ha pins s σ H _ I h) λv s1 ⟨x,H1,I1,r1,q1⟩=>ho pins s1 σ H1 x v Q I1 r1 q1)
theorem opI {f:Value->Value->Sem Value}{C:Int->Int->Prop}{g:Int->Int->Int}
  (rule:∀(i j:Int) (t u:Tok) (s:Shared) (Q:Value->Shared->Prop) (E:Value->Shared->Prop),C i j->Q (.int (g i j) s.toks) {s with toks:=s.toks+1}->wpAny (model X.prog X.w) X.A (f (.int i t) (.int j u)) Q E s):
  OpR X f (rI C λi j=> .int (g i j)):=by
 intro pins s σ H x y v u Q I rx ry h
 obtain⟨i,j,rfl,rfl,hc,q⟩:=h
 obtain⟨t,rfl⟩:=rx
 obtain⟨t',rfl⟩:=ry
 exact rule i j t t' s _ _ hc ⟨.int (g i j),H,I.tok _,⟨_,rfl⟩,q⟩
theorem opI0 {f:Value->Value->Sem Value}{g:Int->Int->Int}
  (rule:∀(i j:Int) (t u:Tok) (s:Shared) (Q:Value->Shared->Prop) (E:Value->Shared->Prop),Q (.int (g i j) s.toks) {s with toks:=s.toks+1}->wpAny (model X.prog X.w) X.A (f (.int i t) (.int j u)) Q E s):
  OpR X f (rI0 λi j=> .int (g i j)):=by
 intro pins s σ H x y v u Q I rx ry h
 obtain⟨i,j,rfl,rfl,q⟩:=h
 obtain⟨t,rfl⟩:=rx
 obtain⟨t',rfl⟩:=ry
 exact rule i j t t' s _ _ ⟨.int (g i j),H,I.tok _,⟨_,rfl⟩,q⟩
theorem opB0 {f:Value->Value->Sem Value}{g:Int->Int->Bool}
  (rule:∀(i j:Int) (t u:Tok) (s:Shared) (Q:Value->Shared->Prop) (E:Value->Shared->Prop),Q (.bool (g i j)) s->wpAny (model X.prog X.w) X.A (f (.int i t) (.int j u)) Q E s):
  OpR X f (rI0 λi j=> .bl (g i j)):=by
 intro pins s σ H x y v u Q I rx ry h
 obtain⟨i,j,rfl,rfl,q⟩:=h
 obtain⟨t,rfl⟩:=rx
 obtain⟨t',rfl⟩:=ry
 exact rule i j t t' s _ _ ⟨.bl (g i j),H,I,rfl,q⟩
def CDiv (i j:Int):Prop:=0<j/\j<1073741824
def CMul (i j:Int):Prop:=(-(2^64)<i/\i<2^64)\/ (-(2^64)<j/\j<2^64)
theorem CMul.ok (h:CMul i j):IntMulOk i j:=by
 rcases h with⟨h1,h2⟩|⟨h1,h2⟩
 ·exact .of_left (intBits_le_64 h1 h2)
 ·exact .of_right (intBits_le_64 h1 h2)
theorem gT0:OpR X (binaryOp .Add) (rI0 λi j=> .int (i+j)):=opI0 λ_ _ _ _ _ _ _ q=>add_int q
theorem rr0:OpR X (binaryOp .Sub) (rI0 λi j=> .int (i - j)):=opI0 λ_ _ _ _ _ _ _ q=>sub_int q
theorem rJ0:OpR X (binaryOp .Mult) (rI CMul λi j=> .int (i*j)):=opI λ_ _ _ _ _ _ _ hc q=>mul_int q hc.ok
theorem pJ0:OpR X (binaryOp .FloorDiv) (rI CDiv λi j=> .int (i / j)):=opI λi j _ _ _ _ _ hc q=>by
 have h1:(0:Int)<j:=hc.1
 have h2:j<1073741824:=hc.2
 exact floordiv_int (by omega) (by rw [Int.fdiv_eq_ediv_of_nonneg i (by omega)]; exact q) (.inl (PyProof.noPylong_small (by omega)))
theorem rl0:OpR X (binaryOp .Mod) (rI (λ_ j=>0<j) λi j=> .int (i%j)):=opI λi j _ _ _ _ _ hc q=>by
 have h1:(0:Int)<j:=hc
 exact mod_int' (by omega) (by rw [Int.fmod_eq_emod_of_nonneg i (by omega)]; exact q)
theorem unI {f:Value->Sem Value}{g:Int->Int}
  (rule:∀(i:Int) (t:Tok) (s:Shared) (Q:Value->Shared->Prop) (E:Value->Shared->Prop),Q (.int (g i) s.toks) {s with toks:=s.toks+1}->wpAny (model X.prog X.w) X.A (f (.int i t)) Q E s):
  UnR X f (rU λi=> .int (g i)):=by
 intro pins s σ H x v Q I rx h
 obtain⟨i,rfl,q⟩:=h
 obtain⟨t,rfl⟩:=rx
 exact rule i t s _ _ ⟨.int (g i),H,I.tok _,⟨_,rfl⟩,q⟩
theorem oO0:UnR X (unaryOp .USub) (rU λi=> .int (-i)):=unI λ_ _ _ _ _ q=>neg_int q
end
def scal:V->V->Bool
 | .non,.non=>true| .non,.int _=>true| .int _,.non=>true| .non,.bl _=>true| .bl _,.non=>true| .non,.str _=>true| .str _,.non=>true
 | .int _,.int _=>true| .bl _,.bl _=>true| .str _,.str _=>true| .byt _,.byt _=>true
 | .int _,.str _=>true| .str _,.int _=>true| .bl _,.str _=>true| .str _,.bl _=>true
 |_,_=>false
def rEq:R2:=λx y H Q=>scal x y=true/\Q (.bl (decide (x=y))) H
def rNe:R2:=λx y H Q=>scal x y=true/\Q (.bl (!decide (x=y))) H
theorem mP0:decide (V.int i=V.int j)=(i==j):=by
 rw [Ak0]
 simp
theorem oX0:decide (V.bl i=V.bl j)=(i==j):=by
 rw [Ak0]
 simp
theorem lV0:decide (V.str i=V.str j)=(i==j):=by
 rw [Ak0]
 simp
theorem mh0:decide (V.byt i=V.byt j)=(i.toList==j.toList):=by
 rw [Ak0]
 cases i
 cases j
 simp
section
variable {X:Cx}{a b c:Expr}{ta tb tc:TE}{pos:Pos}
theorem aV0 {Q:VK}(I:Inv X pins σ H s)(q:Q (.bl k) H)(e:k=k'):EP X pins σ Q (.bool k') s:=by
 subst e
 exact⟨.bl k,H,I,rfl,q⟩
theorem op_eq:OpR X (compareOp .Eq) rEq:=by
 intro pins s σ H x y v u Q I rx ry h
 obtain⟨hs,q⟩:=h
 cases x with
 |non=>
  cases rx
  cases y with
  |non=>cases ry; exact PySem.EqNone.eq_none_none (aV0 I q (by simp))
  |bl j=>cases ry; exact PySem.EqNone.eq_none_bool (aV0 I q (by simp))
  |int j=>obtain⟨t',rfl⟩:=ry; exact PySem.EqNone.eq_none_int (aV0 I q (by simp))
  |str j=>obtain⟨t',rfl⟩:=ry; exact PySem.EqNone.eq_none_str (aV0 I q (by simp))
  |_=>exact absurd (show false=true from hs) Ab4
 |bl i=>
  cases rx
  cases y with
  |non=>cases ry; exact PySem.EqNone.eq_bool_none (aV0 I q (by simp))
  |bl j=>cases ry; exact eq_bool (aV0 I q oX0)
  |str j=>obtain⟨t',rfl⟩:=ry; exact PySem.EqMixed.eq_bool_str (aV0 I q (by simp))
  |_=>exact absurd (show false=true from hs) Ab4
 |int i=>
  obtain⟨t,rfl⟩:=rx
  cases y with
  |non=>cases ry; exact PySem.EqNone.eq_int_none (aV0 I q (by simp))
  |int j=>obtain⟨t',rfl⟩:=ry; exact eq_int (aV0 I q mP0)
  |str j=>obtain⟨t',rfl⟩:=ry; exact PySem.EqMixed.eq_int_str (aV0 I q (by simp))
  |_=>exact absurd (show false=true from hs) Ab4
 |str i=>
  obtain⟨t,rfl⟩:=rx
  cases y with
  |non=>cases ry; exact PySem.EqNone.eq_str_none (aV0 I q (by simp))
  |bl j=>cases ry; exact PySem.EqMixed.eq_str_bool (aV0 I q (by simp))
  |int j=>obtain⟨t',rfl⟩:=ry; exact PySem.EqMixed.eq_str_int (aV0 I q (by simp))
  |str j=>obtain⟨t',rfl⟩:=ry; exact eq_str (aV0 I q lV0)
  |_=>exact absurd (show false=true from hs) Ab4
 |byt i=>
  obtain⟨t,rfl⟩:=rx
  cases y with
  |byt j=>obtain⟨t',rfl⟩:=ry; exact PySem.W.eq_bytes (aV0 I q mh0)
  |_=>exact absurd (show false=true from hs) Ab4
 |_=>cases y<;>exact absurd (show false=true from hs) Ab4
theorem op_ne:OpR X (compareOp .NotEq) rNe:=by
 intro pins s σ H x y v u Q I rx ry h
 obtain⟨hs,q⟩:=h
 cases x with
 |non=>
  cases rx
  cases y with
  |non=>cases ry; exact PySem.EqNone.ne_none_none (aV0 I q (by simp))
  |bl j=>cases ry; exact PySem.EqNone.ne_none_bool (aV0 I q (by simp))
  |int j=>obtain⟨t',rfl⟩:=ry; exact PySem.EqNone.ne_none_int (aV0 I q (by simp))
  |str j=>obtain⟨t',rfl⟩:=ry; exact PySem.EqNone.ne_none_str (aV0 I q (by simp))
  |_=>exact absurd (show false=true from hs) Ab4
 |bl i=>
  cases rx
  cases y with
  |non=>cases ry; exact PySem.EqNone.ne_bool_none (aV0 I q (by simp))
  |bl j=>cases ry; exact ne_bool (aV0 I q (congrArg not oX0))
  |str j=>obtain⟨t',rfl⟩:=ry; exact PySem.EqMixed.ne_bool_str (aV0 I q (by simp))
  |_=>exact absurd (show false=true from hs) Ab4
 |int i=>
  obtain⟨t,rfl⟩:=rx
  cases y with
  |non=>cases ry; exact PySem.EqNone.ne_int_none (aV0 I q (by simp))
  |int j=>obtain⟨t',rfl⟩:=ry; exact ne_int (aV0 I q (congrArg not mP0))
  |str j=>obtain⟨t',rfl⟩:=ry; exact PySem.EqMixed.ne_int_str (aV0 I q (by simp))
  |_=>exact absurd (show false=true from hs) Ab4
 |str i=>
  obtain⟨t,rfl⟩:=rx
  cases y with
  |non=>cases ry; exact PySem.EqNone.ne_str_none (aV0 I q (by simp))
  |bl j=>cases ry; exact PySem.EqMixed.ne_str_bool (aV0 I q (by simp))
  |int j=>obtain⟨t',rfl⟩:=ry; exact PySem.EqMixed.ne_str_int (aV0 I q (by simp))
  |str j=>obtain⟨t',rfl⟩:=ry; exact ne_str (aV0 I q (congrArg not lV0))
  |_=>exact absurd (show false=true from hs) Ab4
 |byt i=>
  obtain⟨t,rfl⟩:=rx
  cases y with
  |byt j=>obtain⟨t',rfl⟩:=ry; exact PySem.W.ne_bytes (aV0 I q (congrArg not mh0))
  |_=>exact absurd (show false=true from hs) Ab4
 |_=>cases y<;>exact absurd (show false=true from hs) Ab4
theorem pw0:OpR X (compareOp .Lt) (rI0 λi j=> .bl (decide (i<j))):=opB0 λ_ _ _ _ _ _ _ q=>lt_int q
theorem ou0:OpR X (compareOp .LtE) (rI0 λi j=> .bl (decide (i<=j))):=opB0 λ_ _ _ _ _ _ _ q=>le_int q
theorem op_gt:OpR X (compareOp .Gt) (rI0 λi j=> .bl (decide (j<i))):=opB0 λ_ _ _ _ _ _ _ q=>gt_int q
theorem op_ge:OpR X (compareOp .GtE) (rI0 λi j=> .bl (decide (j<=i))):=opB0 λ_ _ _ _ _ _ _ q=>ge_int q
theorem si0:OpR X (compareOp .Is) (λx y H Q=>y=.non/\Q (.bl (decide (x=.non))) H):=by
 intro pins s σ H x y v u Q I rx ry h
 obtain⟨rfl,q⟩:=h
 cases ry
 refine is_none_gen (aV0 I q ?_)
 cases x<;>first
  | (cases rx; rfl)
  | (obtain⟨t,rfl⟩:=rx; rfl)
theorem pR0:OpR X (compareOp .IsNot) (λx y H Q=>y=.non/\Q (.bl (!decide (x=.non))) H):=by
 intro pins s σ H x y v u Q I rx ry h
 obtain⟨rfl,q⟩:=h
 cases ry
 refine isnot_none_gen (aV0 I q ?_)
 cases x<;>first
  | (cases rx; rfl)
  | (obtain⟨t,rfl⟩:=rx; rfl)
theorem OpR.or {f:Value->Value->Sem Value}{r r':R2}(h:OpR X f r)(h':OpR X f r'):OpR X f (λx y H Q=>r x y H Q\/ r' x y H Q):=by
 intro pins s σ H x y v u Q I rx ry q
 rcases q with q|q
 ·exact h pins s σ H x y v u Q I rx ry q
 ·exact h' pins s σ H x y v u Q I rx ry q
theorem cZ0 (b:Expr)(h:op≠ .In:=by decide)(h2:op≠ .NotIn:=by decide):behindInMarks op b=false:=by
 have e1:(op==CmpOp.In)=false:=by cases op<;>first|rfl|exact absurd rfl h
 have e2:(op==CmpOp.NotIn)=false:=by cases op<;>first|rfl|exact absurd rfl h2
 cases b<;>simp [behindInMarks,e1,e2]
theorem hS0 (ho:OpR X (compareOp op) r)(ha:PE X a ta)(hb:PE X b tb)(hm:behindInMarks op b=false):PE X (.Compare a [op] [b] pos) (tOp r ta tb):=by
 intro pins s σ H Q I h
 exact wpAny_Compare1 (binT ha hb I h λv u s2 x y H2 I2 rx ry q=>ho pins s2 σ H2 x y v u Q I2 rx ry q) hm
def nQ0 (t:TE):TT:=λσ H Q=>t σ H λx H'=>∃k,x=.bl k/\Q k H'
theorem eY0 (ho:OpR X (compareOp op) r)(ha:PE X a ta)(hb:PE X b tb)(hm:behindInMarks op b=false):PT X (.Compare a [op] [b] pos) (nQ0 (tOp r ta tb)):=by
 intro pins s σ H Q I h
 refine wpAny_isTrue_Compare1 (thn (ha pins s σ H _ I h) λv s1 ⟨x,H1,I1,r1,q1⟩=>thn (hb pins s1 σ H1 _ I1 q1) λu s2 ⟨y,H2,I2,r2,q2⟩=>
  thn (ho pins s2 σ H2 x y v u _ I2 r1 r2 q2) λc s3 ⟨z,H3,I3,r3,k,e,q3⟩=> ?_) hm
 subst e
 cases r3
 exact Ah0 ⟨H3,I3,q3⟩
def kY0 (r r':R2)(ta tb tc:TE):TE:=λσ H Q=>ta σ H λx H1=>tb σ H1 λy H2=>r x y H2 λz H3=>∃k,z=.bl k/\
 (if k=true then tc σ H3 λw' H4=>r' y w' H4 Q else Q (.bl false) H3)
theorem nm0 (ho:OpR X (compareOp op) r)(ho':OpR X (compareOp op') r')(ha:PE X a ta)(hb:PE X b tb)(hc:PE X c tc)
  (hm:lastMarks [op,op'] [b,c]=false:=by with_unfolding_all rfl):PE X (.Compare a [op,op'] [b,c] pos) (kY0 r r' ta tb tc):=by
 intro pins s σ H Q I h
 refine Compare_chain (thn (ha pins s σ H _ I h) λv s1 ⟨x,H1,I1,r1,q1⟩=>chain_link (thn (hb pins s1 σ H1 _ I1 q1) λu s2 ⟨y,H2,I2,r2,q2⟩=>
  thn (ho pins s2 σ H2 x y v u _ I2 r1 r2 q2) λd s3 ⟨z,H3,I3,r3,k,e,q3⟩=> ?_)) hm
 subst e
 cases r3
 refine Ah0 ?_
 cases k with
 |false=>exact ite_ff ⟨.bl false,H3,I3,rfl,q3⟩
 |true=>exact ite_tt (chain_last (thn (hc pins s3 σ H3 _ I3 q3) λw' s4 ⟨z',H4,I4,r4,q4⟩=>ho' pins s4 σ H4 y z' u w' Q I4 r2 r4 q4))
theorem nR0 (ho:OpR X (compareOp op) r)(ho':OpR X (compareOp op') r')(ha:PE X a ta)(hb:PE X b tb)(hc:PE X c tc)
  (hm:lastMarks [op,op'] [b,c]=false:=by with_unfolding_all rfl):PT X (.Compare a [op,op'] [b,c] pos) (nQ0 (kY0 r r' ta tb tc)):=by
 intro pins s σ H Q I h
 refine isTrue_chain (thn (ha pins s σ H _ I h) λv s1 ⟨x,H1,I1,r1,q1⟩=>test_link (thn (hb pins s1 σ H1 _ I1 q1) λu s2 ⟨y,H2,I2,r2,q2⟩=>
  thn (ho pins s2 σ H2 x y v u _ I2 r1 r2 q2) λd s3 ⟨z,H3,I3,r3,k,e,q3⟩=> ?_)) hm
 subst e
 cases r3
 refine Ah0 ?_
 cases k with
 |false=>
  obtain⟨k',e',q'⟩:=q3
  cases e'
  exact ite_ff ⟨H3,I3,q'⟩
 |true=>
  refine ite_tt (test_last (thn (hc pins s3 σ H3 _ I3 q3) λw' s4 ⟨z',H4,I4,r4,q4⟩=>thn (ho' pins s4 σ H4 y z' u w' _ I4 r2 r4 q4) λd' s5 ⟨z2,H5,I5,r5,k2,e2,q5⟩=> ?_))
  subst e2
  cases r5
  exact Ah0 ⟨H5,I5,q5⟩
def TruV (K:Aa3)(x:V)(H:Hp)(k:Bool):Prop:=
 match x with
 | .non=>k=false
 | .bl b=>k=b
 | .int i=>k=(i !=0)
 | .str y=>y.length<=sizeLine/\k=((y.length:Int) !=0)
 | .byt y=>y.size<=sizeLine/\k=((y.size:Int) !=0)
 | .ref p=>(∃xs,SqL K H p xs/\k= !xs.isEmpty)\/ (∃xs,SqT K H p xs/\k= !xs.isEmpty)\/ ∃kvs,H p=some (.dK kvs)/\k= !kvs.isEmpty
 |_=>False
theorem kB0 {κ:Type}{kvs:List (κ × V)}{vs:List (κ × Value)}(r:KV kvs vs):(!vs.isEmpty)= !kvs.isEmpty:=by
 cases r<;>rfl
theorem fK0 {xs:List V}{its:List Value}(r:Vals xs its):(!its.toArray.isEmpty)= !xs.isEmpty:=by
 cases r<;>simp
theorem fA0:(sizeLine:Nat)<2^63:=by rw [Ae1]; decide
theorem ri0:TruR X (λx H Q=>∃k,TruV X.K x H k/\Q k H):=by
 intro pins s σ H x v Q I rx h
 obtain⟨k,e,q⟩:=h
 have hl:=fA0
 have hs:sizeLine=16777216:=Ae1
 cases x with
 |non=>
  cases rx
  have e':k=false:=e
  subst e'
  exact truthy_none ⟨H,I,q⟩
 |bl b=>
  cases rx
  have e':k=b:=e
  subst e'
  exact Ah0 ⟨H,I,q⟩
 |int i=>
  obtain⟨t,rfl⟩:=rx
  have e':k=(i !=0):=e
  subst e'
  exact PySem.P.truthy_int ⟨H,I,q⟩
 |str y=>
  obtain⟨t,rfl⟩:=rx
  obtain⟨hy,e'⟩:y.length<=sizeLine/\k=((y.length:Int) !=0):=e
  subst e'
  exact PySem.P.truthy_str (by omega) ⟨H,I.tok _,q⟩
 |byt y=>
  obtain⟨t,rfl⟩:=rx
  obtain⟨hy,e'⟩:y.size<=sizeLine/\k=((y.size:Int) !=0):=e
  subst e'
  exact PySem.W.truthy_bytes (by omega) ⟨H,I.tok _,q⟩
 |ref p=>
  cases rx
  have e':(∃xs,SqL X.K H p xs/\k= !xs.isEmpty)\/ (∃xs,SqT X.K H p xs/\k= !xs.isEmpty)\/ ∃kvs,H p=some (.dK kvs)/\k= !kvs.isEmpty:=e
  rcases e' with⟨xs,hx,e'⟩|⟨xs,hx,e'⟩|⟨kvs,hx,e'⟩
  ·subst e'
   obtain⟨its,r,pl,hz⟩:=I.list hx
   have hlen:=r.length
   exact wpAny_truthy_list pl.isList (by simp only [Ab8]; omega) ⟨H,I.tok _,by rw [fK0 r]; exact q⟩
  ·subst e'
   obtain⟨its,r,pl,hz⟩:=I.tuple hx
   have hlen:=r.length
   exact truthy_tuple pl (by simp only [Ab8]; omega) ⟨H,I.tok _,by rw [fK0 r]; exact q⟩
  ·subst e'
   obtain⟨hz,hS,vs,r,m⟩:kvs.length<=sizeLine/\(p==sysModules)=false/\∃vs,KV kvs vs/\s.heap.DictOf (aO0 X.prog X.w) p vs:=I.hok p _ hx
   have hlen:kvs.length=vs.length:=Paired.length r
   exact wpAny_truthy_dict hS m (by omega) ⟨H,I.tok _,by rw [kB0 r]; exact q⟩
 |_=>exact(show False from e).elim
theorem eB0 (ha:PE X a ta)(he:∀whole,isTrue a X.env whole=(do let v<- whole; standAt a.pos; holding [v] (truthy v))):
  PT X a (λσ H Q=>ta σ H λx H'=>∃k,TruV X.K x H' k/\Q k H'):=by
 intro pins s σ H Q I h
 exact isTrue_plain (thn (ha pins s σ H _ I h) λv s1 ⟨x,H1,I1,r1,q1⟩=>ri0 pins s1 σ H1 x v Q I1 r1 q1) (he _)
theorem gp0 (r:Vals [x] us):∃u,us=[u]/\RelV x u:=by
 cases r with
 |cons r1 r2=>cases r2; exact⟨_,rfl,r1⟩
theorem nF0 (r:Vals [x,y] us):∃u w',us=[u,w']/\RelV x u/\RelV y w':=by
 cases r with
 |cons r1 r2=>
  cases r2 with
  |cons r3 r4=>cases r4; exact⟨_,_,rfl,r1,r3⟩
theorem mF0 (hc:X.calm=true):ds0 X (.builtin "max") (λxs H Q=>∃i j,xs=[.int i,.int j]/\Q (.int (if j>i then j else i)) H):=by
 intro pins s σ H xs us Q I r h
 obtain⟨i,j,rfl,q⟩:=h
 obtain⟨u,w',rfl,⟨t,rfl⟩,⟨t',rfl⟩⟩:=nF0 r
 refine max_two_ints (I.ok.hd hc) λh' tk k=>⟨_,H,I.kept k,?_,q⟩
 by_cases hj:j>i
 ·rw [if_pos hj,if_pos hj]; exact⟨_,rfl⟩
 ·rw [if_neg hj,if_neg hj]; exact⟨_,rfl⟩
theorem ln0 (hc:X.calm=true):ds0 X (.builtin "min") (λxs H Q=>∃i j,xs=[.int i,.int j]/\Q (.int (if j<i then j else i)) H):=by
 intro pins s σ H xs us Q I r h
 obtain⟨i,j,rfl,q⟩:=h
 obtain⟨u,w',rfl,⟨t,rfl⟩,⟨t',rfl⟩⟩:=nF0 r
 refine min_two_ints (I.ok.hd hc) λh' tk k=>⟨_,H,I.kept k,?_,q⟩
 by_cases hj:j<i
 ·rw [if_pos hj,if_pos hj]; exact⟨_,rfl⟩
 ·rw [if_neg hj,if_neg hj]; exact⟨_,rfl⟩
def LenV (K:Aa3)(x:V)(H:Hp)(n:Nat):Prop:=
 match x with
 | .str y=>y.length<=sizeLine/\n=y.length
 | .byt y=>y.size<=sizeLine/\n=y.size
 | .ref p=>(∃xs,SqL K H p xs/\n=xs.length)\/ ∃xs,SqT K H p xs/\n=xs.length
 |_=>False
theorem op0:ds0 X (.builtin "len") (λxs H Q=>∃x n,xs=[x]/\LenV X.K x H n/\Q (.int n) H):=by
 intro pins s σ H xs us Q I r h
 obtain⟨x,n,rfl,e,q⟩:=h
 obtain⟨u,rfl,rx⟩:=gp0 r
 have hl:=fA0
 have hs:sizeLine=16777216:=Ae1
 cases x with
 |str y=>
  obtain⟨t,rfl⟩:=rx
  obtain⟨hy,e'⟩:y.length<=sizeLine/\n=y.length:=e
  subst e'
  exact len_str (by omega) ⟨.int _,H,I.tok _,⟨_,rfl⟩,q⟩
 |byt y=>
  obtain⟨t,rfl⟩:=rx
  obtain⟨hy,e'⟩:y.size<=sizeLine/\n=y.size:=e
  subst e'
  exact PySem.W.len_bytes (by omega) ⟨.int _,H,I.tok _,⟨_,rfl⟩,q⟩
 |ref p=>
  cases rx
  have e':(∃xs,SqL X.K H p xs/\n=xs.length)\/ ∃xs,SqT X.K H p xs/\n=xs.length:=e
  rcases e' with⟨xs,hx,e'⟩|⟨xs,hx,e'⟩
  ·subst e'
   obtain⟨its,r',pl,hz⟩:=I.list hx
   have hlen:=r'.length
   exact Calls.call_len_list pl.isList (by simp only [Ab8]; omega) ⟨.int xs.length,H,I.tok _,⟨_,by simp only [Ab8]; rw [hlen]⟩,q⟩
  ·subst e'
   obtain⟨its,r',pl,hz⟩:=I.tuple hx
   have hlen:=r'.length
   exact len_tuple pl (by simp only [Ab8]; omega) ⟨.int xs.length,H,I.tok _,⟨_,by simp only [Ab8]; rw [hlen]⟩,q⟩
 |_=>exact(show False from e).elim
end
structure ObjM (h:Heap)(x dx C:Addr)(mA:Str->Option Value):Prop where
 obj:h.get? x=some (PySem.W.instObj C dx)
 ns:h.Ns1 dx mA
 ne:dx≠x
theorem mB0 {h:Heap}{mA:Str->Option Value}(n:h.Ns1 dx mA):∃od,h.get? dx=some od/\∀name,PySem.W.lookIn name od=some (mA name):=by
 obtain⟨o,es,ep,ho,hd,hk,_,hm⟩:=n
 refine⟨o,ho,λname=> ?_⟩
 have e:=hm name
 unfold nsFind findBy at e
 rw [<- Array.find?_toList] at e
 unfold PySem.W.lookIn
 rw [hd]
 dsimp only
 split
 ·rename_i y q
  rw [q] at e
  exact congrArg some e
 ·rename_i q
  rw [q] at e
  have a:es.toList.any (·.refKey)=false:=by
   rw [List.any_eq_false]
   intro y hy
   obtain⟨z,t,hkey⟩:=hk y (Array.mem_toList_iff.mp hy)
   simp [DictEntry.refKey,hkey]
  have a':¬es.toList.any (·.refKey)=true:=by rw [a]; exact Ab4
  rw [if_neg a']
  exact congrArg some e
theorem ObjM.look {mA:Str->Option Value}(I:ObjM h x dx C mA):∃od,PySem.W.InstAt h x (PySem.W.instObj C dx) C (some od)/\∀name,PySem.W.lookIn name od=some (mA name):=
 let ⟨od,ho,hl⟩:=mB0 I.ns
 ⟨od,⟨I.obj,rfl,rfl,ho⟩,hl⟩
section
variable {prog:Program}{w:World}{A:Around}{E:Value->Shared->Prop}{s:Shared}{K:Aa3}{x dx C f:Addr}{mA:Str->Option Value}{name:Str}{v:Value}
theorem qU0 {Q:Value->Shared->Prop}(X:K.In s.heap)(I:ObjM s.heap x dx C mA)(hg:PySem.W.plainGet K C name=true)(hh:PySem.W.hasDictIn K C=true)
  (ha:PySem.W.findIn K (.ref C) name=some none) (hv:mA name=some v) (hv':PySem.W.handedIn v=true) (h:Q v {s with toks:=s.toks+1}):
  wpAny (model prog w) A (getAttr (.ref x) name expr) Q E s:=by
 obtain⟨od,J,hl⟩:=I.look
 exact PySem.W.get_value X J (Ar4 hg).1 (PySem.W.findObj_own hh ha rfl (by rw [hl,hv])) hv' h
theorem oB0 {Q:Value × List Value->Shared->Prop}(X:K.In s.heap)(I:ObjM s.heap x dx C mA)(hg:PySem.W.plainGet K C name=true)
  (hf:PySem.W.findIn K (.ref C) name=some (some (.ref f))) (ht:PySem.W.isFn K (.ref f)=true) (hv:mA name=none) (h:Q (.ref f,[.ref x]) s):
  wpAny (model prog w) A (getMethod (.ref x) name pl) Q E s:=by
 obtain⟨od,J,hl⟩:=I.look
 exact PySem.W.method_fn X J (Ar4 hg).1 (Ar4 hg).2 hf (beq_iff_eq.mp ht) (by show (PySem.W.lookIn name od).map (·.isSome)=some false; rw [hl,hv]; rfl) h
theorem ra0 {Q:Unit->Shared->Prop}(X:K.In s.heap)(I:ObjM s.heap x dx C mA)
  (hs:PySem.W.findIn K (.ref C) "__setattr__" =some (some (.builtin "object.__setattr__"))) (hp:PySem.W.plainOver K C=true) (ht:PySem.W.takerIn K C name=some none) (hh:PySem.W.hasDictIn K C=true)
  (hw:PySem.Within mA ns) (hsz:ns.length<=sizeLine)
  (h:∀h',ObjM h' x dx C (λy=>if y=name then some v else mA y)->Heap.SameBut dx s.heap h'->Q () {s with heap:=h',toks:=s.toks+2}):
  wpAny (model prog w) A (setAttr (.ref x) name v) Q E s:=by
 obtain⟨od,J,hl⟩:=I.look
 refine PySem.W.set_plain X J hs (PySem.W.osa_open (s:={s with toks:=s.toks+1}) (r:=none) X J hp ht λb=> ?_)
 obtain⟨cd,hc,hd'⟩:=PySem.W.any_some hh
 have hx:s.heap.get? x=some ⟨.ref C,some dx,.plain,#[]⟩:=I.obj
 refine Aa0 (Aa8 (Aa0 (Aa0 (wpAny_loadPart hx (Aa0 (PySem.W.Looks.here (s:={s with toks:=s.toks+1}) (PySem.W.looks_clsIn X hc) ?_))))))
 rw [hd']
 refine Aa8 (a:=some dx) (Aa0 (Aa8 (Aa0 ?_)))
 refine wpAny_nsSet1 (s:={s with toks:=s.toks+1}) I.ns λh' hn2 hs2=> ?_
 obtain⟨oD,esD,epD,hoD,hdD,hcD⟩:=hn2.count (PySem.Within.cons name v hw)
 refine Aa0 (wpAny_lookBehind hoD (by rw [hdD]; exact pastItsLine_dict (Ac6 hcD (by rw [Ac4]; omega))) ?_)
 exact Aa8 (h _ ⟨(hs2.2 _ (Ne.symm I.ne)).trans I.obj,hn2,I.ne⟩ hs2)
theorem nN0 {R:Result->Shared->Prop}(X:K.In s.heap)(hm:PySem.W.makesIn K C=true)
  (hi:PySem.W.findIn K (.ref C) "__init__" =some (some (.ref f))) (hf:PySem.W.typeIn K (.ref f)=some (.type "function"))
  (h:codeAny (model prog w) (A.under (.builtin "type.__call__" ⟨.ref C::vs,kw⟩)) (.call (.ref f) ⟨.ref (s.heap.objs.size+1)::vs,kw⟩) (PySem.W.InitBack (s.heap.objs.size+1) R)
   {s with heap:=(s.heap.push PySem.W.emptyDict).push (PySem.W.instObj C s.heap.objs.size)}):
  codeAny (model prog w) A (.call (.ref C) ⟨vs,kw⟩) R s:=by
 obtain⟨hh,g,d,t,os⟩:=s
 exact PySem.W.make_core (PySem.W.makes_of X hm) (PySem.W.looks_findIn X hi) (λself=>PySem.W.bind_fn X self hf) (.inl rfl) h
end
def putF (f:Str)(v:V):List (Str × V)->List (Str × V)
 | []=> [(f,v)]
 | (g,x)::r=>if g=f then(g,v)::r else(g,x)::putF f v r
theorem eV0 (f g:Str)(v:V):∀fs:List (Str × V),(putF f v fs).lookup g=if g=f then some v else fs.lookup g
 | []=>by
  show List.lookup g [(f,v)]=_
  by_cases h:g=f
  ·have hb:(g==f)=true:=beq_iff_eq.mpr h
   simp only [List.lookup,hb,if_pos h]
  ·have hb:(g==f)=false:=beq_eq_false_iff_ne.mpr h
   simp only [List.lookup,hb,if_neg h]
 | (k,x)::r=>by
  have ih:=eV0 f g v r
  rw [show putF f v ((k,x)::r)=(if k=f then(k,v)::r else(k,x)::putF f v r) from rfl]
  by_cases hk:k=f
  ·rw [if_pos hk]
   by_cases h:g=k
   ·have hb:(g==k)=true:=beq_iff_eq.mpr h
    simp only [List.lookup,hb,if_pos (h.trans hk)]
   ·have hb:(g==k)=false:=beq_eq_false_iff_ne.mpr h
    simp only [List.lookup,hb,if_neg (λe:g=f=>h (e.trans hk.symm))]
  ·rw [if_neg hk]
   by_cases h:g=k
   ·have hb:(g==k)=true:=beq_iff_eq.mpr h
    simp only [List.lookup,hb,if_neg (λe:g=f=>hk (h.symm.trans e))]
   ·have hb:(g==k)=false:=beq_eq_false_iff_ne.mpr h
    simp only [List.lookup,hb]
    exact ih
theorem ft0 (f:Str)(v:V):∀fs:List (Str × V),f∈(putF f v fs).map (·.1)/\∀g,g∈fs.map (·.1)->g∈(putF f v fs).map (·.1)
 | []=>⟨by simp [putF],λg h=>by simp at h⟩
 | (k,x)::r=>by
  obtain⟨i1,i2⟩:=ft0 f v r
  rw [show putF f v ((k,x)::r)=(if k=f then(k,v)::r else(k,x)::putF f v r) from rfl]
  by_cases hk:k=f
  ·rw [if_pos hk]
   subst hk
   exact⟨by simp,λg h=>by simpa using h⟩
  ·rw [if_neg hk]
   refine⟨?_,λg h=> ?_⟩
   ·rw [Ac2]
    exact Ae6 _ i1
   ·rw [Ac2] at h ⊢
    rcases Ab2.mp h with e|e
    ·exact Ab2.mpr (.inl e)
    ·exact Ae6 _ (i2 g e)
theorem fm0 (f:Str)(v:V):∀fs:List (Str × V),(putF f v fs).length<=fs.length+1
 | []=>by simp [putF]
 | (k,x)::r=>by
  have ih:=fm0 f v r
  rw [show putF f v ((k,x)::r)=(if k=f then(k,v)::r else(k,x)::putF f v r) from rfl]
  by_cases hk:k=f
  ·rw [if_pos hk,Ac4,Ac4]; omega
  ·rw [if_neg hk,Ac4,Ac4]; omega
theorem RelO.some_of (r:RelO (some v) o):∃u,o=some u/\RelV v u:=by
 cases o with
 |none=>exact(show False from r).elim
 |some u=>exact⟨u,rfl,r⟩
theorem RelO.none_of (r:RelO none o):o=none:=by
 cases o with
 |none=>rfl
 |some u=>exact(show False from r).elim
theorem nd0 (r:RelV v u):PySem.W.handedIn u=true:=by
 cases v with
 |non=>cases (show u=Value.none from r); rfl
 |bl b=>cases (show u=Value.bool b from r); rfl
 |int i=>obtain⟨t,e⟩:=(show∃t,u=Value.int i t from r); cases e; rfl
 |str x=>obtain⟨t,e⟩:=(show∃t,u=Value.str x t from r); cases e; rfl
 |byt b=>obtain⟨t,e⟩:=(show∃t,u=Value.bytes b t from r); cases e; rfl
 |flt b=>obtain⟨t,e⟩:=(show∃t,u=Value.float b t from r); cases e; rfl
 |ref a=>cases (show u=Value.ref a from r); rfl
 |ty n=>cases (show u=Value.type n from r); rfl
section
variable {P:Program}{w:World}{H H':Hp}{h h':Heap}{a C dx:Addr}{fs fs':List (Str × V)}
theorem gw0 (hok:HOk P w H h)(e:H a=some (.ins C dx fs)):∃mA,ObjM h a dx C mA/\(∀f,RelO (fs.lookup f) (mA f))/\PySem.Within mA (fs.map (·.1))/\fs.length<=1000/\H dx=some (.own a):=by
 obtain⟨d,z,ne,ob,mA,n,r,q⟩:=(show ObjOk P w H h a (.ins C dx fs) from hok a _ e)
 exact⟨mA,⟨ob,n,ne⟩,r,q,z,d⟩
end
structure Cls (K:Aa3)(C:Addr):Prop where
 pg:PySem.W.plainGet K C Str.empty=true
 hd:PySem.W.hasDictIn K C=true
 po:PySem.W.plainOver K C=true
 sa:PySem.W.findIn K (.ref C) "__setattr__" =some (some (.builtin "object.__setattr__"))
theorem Cls.get {K:Aa3}{C:Addr}(c:Cls K C)(f:Str):PySem.W.plainGet K C f=true:=c.pg
def NoAttr (K:Aa3)(C:Addr)(f:Str):Prop:=PySem.W.findIn K (.ref C) f=some none
theorem NoAttr.taker {K:Aa3}{C:Addr}{f:Str}(n:NoAttr K C f):PySem.W.takerIn K C f=some none:=by
 unfold PySem.W.takerIn
 rw [show PySem.W.findIn K (.ref C) f=some none from n]
 rfl
structure Meth (K:Aa3)(C:Addr)(m:Str)(f:Addr):Prop where
 at_:PySem.W.findIn K (.ref C) m=some (some (.ref f))
 fn:PySem.W.isFn K (.ref f)=true
 kp:PySem.W.keepIn K (.ref f)=true
section
variable {X:Cx}{pins:List (Addr × Obj)}{σ:St}{H:Hp}{s:Shared}{a C dx:Addr}{fs:List (Str × V)}{f:Str}{v:V}{A:Around}{E:Value->Shared->Prop}
theorem kH0 {Q:Value->Shared->Prop}(I:Inv X pins σ H s)(e:H a=some (.ins C dx fs))(c:Cls X.K C)(n:NoAttr X.K C f)(l:fs.lookup f=some v)
  (h:∀u s',Inv X pins σ H s'->RelV v u->Q u s'):wpAny (model X.prog X.w) A (getAttr (.ref a) f b) Q E s:=by
 obtain⟨mA,O,r,_,_,_⟩:=gw0 I.hok e
 obtain⟨u,hu,ru⟩:=RelO.some_of (v:=v) (o:=mA f) (by rw [<- l]; exact r f)
 exact qU0 I.kIn O (c.get f) c.hd n hu (nd0 ru) (h u _ (I.tok _) ru)
theorem eh0 {Q:Value × List Value->Shared->Prop}(I:Inv X pins σ H s)(e:H a=some (.ins C dx fs))(c:Cls X.K C)(k:Meth X.K C m g)(l:fs.lookup m=none)
  (h:Q (.ref g,[.ref a]) s):wpAny (model X.prog X.w) A (getMethod (.ref a) m pl) Q E s:=by
 obtain⟨mA,O,r,_,_,_⟩:=gw0 I.hok e
 have hn:mA m=none:=RelO.none_of (by rw [<- l]; exact r m)
 exact oB0 I.kIn O (c.get m) k.at_ k.fn hn h
theorem kA0 {Q:Unit->Shared->Prop}(I:Inv X pins σ H s)(e:H a=some (.ins C dx fs))(c:Cls X.K C)(n:NoAttr X.K C f)(hl:fs.length<1000)(ry:RelV y u)
  (h:∀s',Inv X pins σ (upd H a (.ins C dx (putF f y fs))) s'->Q () s'):wpAny (model X.prog X.w) A (setAttr (.ref a) f u) Q E s:=by
 obtain⟨mA,O,r,wi,_,ho⟩:=gw0 I.hok e
 have hz:(fs.map (·.1)).length<=sizeLine:=by rw [Aa1,Ae1]; omega
 refine ra0 I.kIn O c.sa c.po n.taker c.hd wi hz λh' O' sb=>h _ ?_
 have hd:∃o,h'.get? dx=some o:=let ⟨o,_,_,e',_⟩:=O'.ns; ⟨o,e'⟩
 refine I.write (x:=a) (e:=dx) (by rw [e]; exact True.intro) (.inr ho) (λb q hb z=>(sb.2 b hb).trans z) hd ?_
 refine⟨by rw [aj0 O.ne]; exact ho,?_,O.ne,O'.obj,_,O'.ns,λg=> ?_,λg hg=> ?_⟩
 ·have:=fm0 f y fs; omega
 ·show RelO ((putF f y fs).lookup g) (if g=f then some u else mA g)
  rw [eV0]
  by_cases q:g=f
  ·rw [if_pos q,if_pos q]; exact ry
  ·rw [if_neg q,if_neg q]; exact r g
 ·by_cases q:g=f
  ·rw [q]; exact(ft0 f y fs).1
  ·refine(ft0 f y fs).2 g (wi g λz=>hg ?_)
   show (if g=f then some u else mA g)=none
   rw [if_neg q]; exact z
theorem Inv.made (I:Inv X pins σ H s):Inv X pins σ (upd (upd H s.heap.objs.size (.own (s.heap.objs.size+1))) (s.heap.objs.size+1) (.ins C s.heap.objs.size []))
  {s with heap:=(s.heap.push PySem.W.emptyDict).push (PySem.W.instObj C s.heap.objs.size)}:=by
 have e1:(s.heap.push PySem.W.emptyDict).get? s.heap.objs.size=some PySem.W.emptyDict:=Ab7 s.heap rfl
 have e2:((s.heap.push PySem.W.emptyDict).push (PySem.W.instObj C s.heap.objs.size)).get? (s.heap.objs.size+1)=some (PySem.W.instObj C s.heap.objs.size):=by
  have:=Ab7 (s.heap.push PySem.W.emptyDict) (o:=PySem.W.instObj C s.heap.objs.size) rfl
  rwa [Af6] at this
 have e3:(s.heap.push PySem.W.emptyDict).Ns s.heap.objs.size (λ_=>none):=⟨PySem.W.emptyDict,#[],_,e1,rfl,(λe he=>absurd he (by simp)),λ_=>rfl⟩
 have I1:=I.laid (a:=s.heap.objs.size) (o:=.own (s.heap.objs.size+1)) (h':=s.heap.push PySem.W.emptyDict) (t':=s.toks) (λb u q=>Aa7 _ q) (Ab1 _) ⟨_,e1⟩
 refine I1.laid (a:=s.heap.objs.size+1) (o:=.ins C s.heap.objs.size []) (t':=s.toks) (λb u q=>Aa7 _ q) (Aw3 (Af6 _ _)) ?_
 have ne:s.heap.objs.size≠s.heap.objs.size+1:=Ad4 (Al8 _)
 refine⟨by rw [aj0 ne,ag0],Ae5 _,ne,e2,λ_=>none,(Heap.Ns1.of_empty e3).at λo q=>Aa7 _ q,λ_=>True.intro,λy hy=>absurd rfl hy⟩
theorem pQ0 {Q:Value->Shared->Prop}(hb:attributeBase e f env (eval e env)=eval e env)
  (h:wpAny (model prog w) A (eval e env) (λo s₁=>wpAny (model prog w) A (getAttr o f true) Q E s₁) E s):wpAny (model prog w) A (eval (.Attribute e f pos) env) Q E s:=
 Attribute_any_ h (by rw [arm_eval_Attribute,hb])
end
def tFld (K:Aa3)(ta:TE)(f:Str):TE:=λσ H Q=>ta σ H λx H1=>∃a C dx fs v,x=.ref a/\H1 a=some (.ins C dx fs)/\Cls K C/\NoAttr K C f/\fs.lookup f=some v/\Q v H1
def sFld (K:Aa3)(ta tv:TE)(f:Str):TS:=λD σ H=>tv σ H λy H1=>ta σ H1 λx H2=>∃a C dx fs,x=.ref a/\H2 a=some (.ins C dx fs)/\Cls K C/\NoAttr K C f/\fs.length<1000/\
 D.nx σ (upd H2 a (.ins C dx (putF f y fs)))
section
variable {X:Cx}{o e value:Expr}{f:Str}{pos pos' tpos:Pos}{ta tv:TE}
theorem aR0 (he:PE X e ta)(hb:attributeBase e f X.env (eval e X.env)=eval e X.env):PE X (.Attribute e f pos) (tFld X.K ta f):=by
 intro pins s σ H Q I h
 refine pQ0 hb (thn (he pins s σ H _ I h) λu s1 ⟨x,H1,I1,rx,a,C,dx,fs,v,ex,ea,c,n,l,q⟩=> ?_)
 subst ex
 obtain rfl:u=Value.ref a:=rx
 exact kH0 I1 ea c n l λu' s2 I2 ru=>⟨v,H1,I2,ru,q⟩
theorem dm0 (ha:PE X o ta)(hv:PE X value tv)(hs:swapsWith value (some (.Attribute o f pos')) pos.line X.env=pure false):PS X (.Assign [.Attribute o f pos'] value pos) (sFld X.K ta tv f):=by
 intro pins s σ H D I h
 refine plainObj_wpAny_Assign_Attribute (thn (hv pins s σ H _ I h) λu s1 ⟨y,H1,I1,ry,q⟩=>thn (ha pins s1 σ H1 _ I1 q) λov s2 ⟨x,H2,I2,rx,a,C,dx,fs,ex,ea,c,n,l,q2⟩=> ?_) hs
 subst ex
 obtain rfl:ov=Value.ref a:=rx
 exact kA0 I2 ea c n l ry λs3 I3=>⟨σ,_,I3,q2⟩
theorem pt0 {Q:Value->Shared->Prop}{te:TE}(he:PE X e te)(I:Inv X pins σ H s)
  (h:te σ H λx H1=>∃a C dx fs g,x=.ref a/\H1 a=some (.ins C dx fs)/\Cls X.K C/\Meth X.K C m g/\fs.lookup m=none/\
   ∀s1,Inv X pins σ H1 s1->wpAny (model X.prog X.w) X.A (callWith pos (.ref g) [.ref a] (backTo pos (starEach args X.env)) (backToKw pos (keywordEach [] X.env))) Q X.xe s1)
  (ht:eval (.Call (.Attribute e m apos) args [] pos) X.env=(do
   let ov<- eval e X.env
   standAt apos.atName
   let (f,first)<- holding [ov] (getMethod ov m pl)
   callWith pos f first (backTo pos (starEach args X.env)) (backToKw pos (keywordEach [] X.env)))):
  wpAny (model X.prog X.w) X.A (eval (.Call (.Attribute e m apos) args [] pos) X.env) Q X.xe s:=by
 refine Aq2 (pl:=pl) (thn (he pins s σ H _ I h) λu s1 ⟨x,H1,I1,rx,a,C,dx,fs,g,ex,ea,c,k,l,q⟩=> ?_) ht
 subst ex
 obtain rfl:u=Value.ref a:=rx
 exact eh0 I1 ea c k l (q s1 I1)
end
section
variable {X:Cx}{pins:List (Addr × Obj)}{σ:St}{H:Hp}{s:Shared}{A:Around}{E:Value->Shared->Prop}{Q:Value->Shared->Prop}{c:Value}{b:Bool}
inductive TyOf (K:Aa3) (H:Hp):V->Value->Prop where
 |non:TyOf K H .non (.type "NoneType")
 |bl (x:Bool):TyOf K H (.bl x) (.type "bool")
 |int (i:Int):TyOf K H (.int i) (.type "int")
 |str (x:Str):TyOf K H (.str x) (.type "str")
 |flt (x:UInt64):TyOf K H (.flt x) (.type "float")
 |lst {a:Addr} {xs:List V} (e:H a=some (.lst xs)):TyOf K H (.ref a) (.type "list")
 |frz {a:Addr} {o:Obj} {xs:List V} (e:H a=some (.frz o (.lst xs))):TyOf K H (.ref a) (.type "list")
 |tup {a:Addr} {xs:List V} (e:H a=some (.tup xs)):TyOf K H (.ref a) (.type "tuple")
 |dK {a:Addr} {kvs:List (Key × V)} (e:H a=some (.dK kvs)):TyOf K H (.ref a) (.type "dict")
 |dT {a:Addr} {kvs:List (SK × V)} (e:H a=some (.dT kvs)):TyOf K H (.ref a) (.type "dict")
 |fD {a:Addr} {o:Obj} {kvs:List (Key × V)} (e:H a=some (.frz o (.dK kvs))):TyOf K H (.ref a) (.type "dict")
 |ins {a C dx:Addr} {fs:List (Str × V)} (e:H a=some (.ins C dx fs)) (cl:Cls K C) (ha:PySem.W.findIn K (.ref C) "__class__" =some (some (.builtin "object.__class__")))
   (hn:PySem.W.specialIn K (.builtin "object.__class__") "__get__" =some (some (.builtin "getset_descriptor.__get__"))) (htk:PySem.W.takesIn K (.builtin "object.__class__")=some true)
   (hm:PySem.W.mroIn K C (.type "object")=some true):TyOf K H (.ref a) (.ref C)
theorem lT0 (I:Inv X pins σ H s)(rx:RelV x u)(ty:TyOf X.K H x t)(e:PySem.W.kitOne X.K t c=some b)(h:∀tk,Q (.bool b) {s with toks:=tk}):
  wpAny (model X.prog X.w) A (call (.builtin "isinstance") [u,c]) Q E s:=by
 cases ty with
 |non=>cases (show u=Value.none from rx); exact Ah3 PySem.W.kitx_none I.kIn True.intro e nofun h
 |bl y=>cases (show u=Value.bool y from rx); exact Ah3 PySem.W.kitx_bool I.kIn True.intro e nofun h
 |int i=>obtain⟨t,q⟩:=(show∃t,u=Value.int i t from rx); cases q; exact Ah3 PySem.W.kitx_int I.kIn True.intro e nofun h
 |str y=>obtain⟨t,q⟩:=(show∃t,u=Value.str y t from rx); cases q; exact Ah3 PySem.W.kitx_str I.kIn True.intro e nofun h
 |flt y=>obtain⟨t,q⟩:=(show∃t,u=Value.float y t from rx); cases q; exact Ah3 PySem.W.kitx_float I.kIn True.intro e nofun h
 | @lst a xs ea=>
  cases (show u=Value.ref a from rx)
  obtain⟨_,_,n,_,h1⟩:=(show ObjOk X.prog X.w H s.heap a (.lst xs) from I.hok a _ ea)
  exact Ah3 PySem.W.kitx_list I.kIn ⟨_,h1,rfl⟩ e nofun h
 | @frz a ob xs ea=>
  cases (show u=Value.ref a from rx)
  obtain⟨_,_,_,n,_,h1⟩:=(show ObjOk X.prog X.w H s.heap a (.frz ob (.lst xs)) from I.hok a _ ea)
  exact Ah3 PySem.W.kitx_list I.kIn ⟨_,h1,rfl⟩ e nofun h
 | @tup a xs ea=>
  cases (show u=Value.ref a from rx)
  obtain⟨_,_,_,p,_⟩:=(show ObjOk X.prog X.w H s.heap a (.tup xs) from I.hok a _ ea)
  obtain⟨o,h1,h2,_⟩:=p
  exact Ah3 PySem.W.kitx_tuple I.kIn ⟨o,h1,h2⟩ e nofun h
 | @dK a kvs ea=>
  cases (show u=Value.ref a from rx)
  obtain⟨_,_,vs,_,p⟩:=(show ObjOk X.prog X.w H s.heap a (.dK kvs) from I.hok a _ ea)
  obtain⟨o,es,ep,h1,h2,_⟩:=p
  exact Ah3 As8 I.kIn ⟨o,h1,h2.1⟩ e nofun h
 | @fD a ob kvs ea=>
  cases (show u=Value.ref a from rx)
  obtain⟨_,_,_,vs,_,p⟩:=(show ObjOk X.prog X.w H s.heap a (.frz ob (.dK kvs)) from I.hok a _ ea)
  obtain⟨o,es,ep,h1,h2,_⟩:=p
  exact Ah3 As8 I.kIn ⟨o,h1,h2.1⟩ e nofun h
 | @dT a kvs ea=>
  cases (show u=Value.ref a from rx)
  obtain⟨_,_,xs,_,o,es,ep,h1,h2,_⟩:=(show ObjOk X.prog X.w H s.heap a (.dT kvs) from I.hok a _ ea)
  exact Ah3 As8 I.kIn ⟨o,h1,h2.1⟩ e nofun h
 | @ins a C dx fs ea cl ha hn htk hm=>
  cases (show u=Value.ref a from rx)
  obtain⟨mA,O,_⟩:=gw0 I.hok ea
  obtain⟨od,J,_⟩:=O.look
  exact Ah3 (PySem.W.kitx_own (cl.get _) cl.hd ha hn htk hm) I.kIn J e nofun h
end
structure Room (k:Nat)(A:Around):Prop where
 hd:A.handled=none
 dp:A.depth+3*k+5<recursionLimit
 un:A.units+16*k+200<cLine
theorem Room.mono (r:Room k A)(h:j<=k:=by decide):Room j A:=⟨r.hd,by have:=r.dp; omega,by have:=r.un; omega⟩
theorem Room.deeper (r:Room (k+1) A)(env:Env):Room k (A.deeper env):=
 ⟨r.hd,by have:=r.dp; show A.depth+1+3*k+5<_; omega,by have:=r.un; show A.units+3+16*k+200<_; omega⟩
theorem kz0 {A:Around}:(A.under (.builtin "type.__call__" ⟨.ref C::us,kw⟩)).depth=A.depth+1:=by
 first|rfl|simp [Around.under,Code.weight,Code.isCreation,Code.isGuard,Code.isCaller,Code.frames,Code.isFrame,guardIds]
theorem kQ0 {A:Around}:(A.under (.builtin "type.__call__" ⟨.ref C::us,kw⟩)).units=A.units+1:=by
 first|rfl|simp [Around.under,Code.cUnits,Code.frames,Code.isFrame]
theorem Room.make (r:Room (k+1) A)(C:Addr)(us:List Value)(kw:List (Str × Value)):Room k (A.under (.builtin "type.__call__" ⟨.ref C::us,kw⟩)):=
 ⟨r.hd,by have:=r.dp; rw [kz0]; omega,by have:=r.un; rw [kQ0]; omega⟩
theorem Room.depth (r:Room k A):A.depth<recursionLimit:=by have:=r.dp; omega
theorem Room.units (r:Room k A):A.units+64<cLine:=by have:=r.un; omega
def tNil:TA:=λ_ H Q=>Q [] H
def fy0 (ta:TE)(tr:TA):TA:=λσ H Q=>ta σ H λx H1=>tr σ H1 λxs H2=>Q (x::xs) H2
section
variable {X:Cx}{e:Expr}{es:List Expr}{te:TE}{t:TA}{pos:Pos}
theorem ax0:PA X [] tNil:=λ_ _ _ _ H Q I h=>As9 ⟨[],H,I,.nil,h⟩
theorem ao0 (ha:PE X e te)(hr:PA X es t)(hs:starEach (e::es) X.env=(false,eval e X.env)::starEach es X.env:=by rfl):PA X (e::es) (fy0 te t):=by
 intro pos pins s σ H Q I h
 rw [hs]
 show wpAny _ _ (spliced ((false,eval e X.env)::backTo pos (starEach es X.env))) _ _ s
 refine As1 (thn (ha pins s σ H _ I h) λu s1 ⟨x,H1,I1,r1,q1⟩=> ?_)
 exact thn (hr pos pins s1 σ H1 _ I1 q1) λus s2 ⟨xs,H2,I2,r2,q2⟩=>⟨x::xs,H2,I2,.cons r1 r2,q2⟩
def tTup (t:TA):TE:=λσ H Q=>t σ H λxs H1=>xs.length<=sizeLine/\∀p,H1 p=none->Q (.ref p) (upd H1 p (.tup xs))
def tLst (t:TA):TE:=λσ H Q=>t σ H λxs H1=>xs.length<=sizeLine/\∀p,H1 p=none->Q (.ref p) (upd H1 p (.lst xs))
theorem fP0 {x1}(h:PA X es t):PE X (.Tuple es x1 pos) (tTup t):=by
 intro pins s σ H Q I hq
 refine wpAny_Tuple_spliced (thn (h pos pins s σ H _ I hq) λus s1 ⟨xs,H1,I1,r,z,q⟩=>⟨by rw [<- r.length]; exact z,?_⟩)
 have hf:H1 s1.heap.objs.size=none:=I1.hok.fresh (Ab1 _)
 refine⟨.ref s1.heap.objs.size,upd H1 s1.heap.objs.size (.tup xs),I1.laid (t':=s1.toks) (λb u e=>Aa7 _ e) (Ab1 _) ?_,rfl,q _ hf⟩
 exact⟨z,us,r,⟨_,Ab7 _ rfl,rfl,_,rfl⟩,_,Ab7 _ rfl,rfl⟩
theorem dP0 (h:PA X es t):PE X (.List es pos) (tLst t):=by
 intro pins s σ H Q I hq
 refine wpAny_List_spliced (thn (h pos pins s σ H _ I hq) λus s1 ⟨xs,H1,I1,r,z,q⟩=>⟨by rw [<- r.length]; exact z,?_⟩)
 have hf:H1 s1.heap.objs.size=none:=I1.hok.fresh (Ab1 _)
 refine⟨.ref s1.heap.objs.size,upd H1 s1.heap.objs.size (.lst xs),I1.laid (t':=s1.toks) (λb u e=>Aa7 _ e) (Ab1 _) ?_,rfl,q _ hf⟩
 exact⟨z,us,0,r,Ab7 _ rfl⟩
end
abbrev Sp:=List V->Hp->VK->XK->Prop
abbrev CXT:=List Env->Hp->Shared->XK->Value->Shared->Prop
structure Env0 (P:Program)(w:World)(K:Aa3)(mg:Str->Option Value)(base:Heap)(A:Around)(outer:List Env)(s:Shared)(H:Hp):Prop where
 frames:A.frames=some outer
 mod:Mod K mg base
 bs:∀b o,base.get? b=some o->s.heap.get? b=some o/\H b=none
 bsz:base.objs.size<=s.heap.objs.size
 funs:s.heap.FunFrames base outer
 frf:∀b∈frs outer,H b=none
 hok:HOk P w H s.heap
 bare:AllBare s.gens
def CE (outer:List Env)(P:Program)(w:World)(H:Hp)(s:Shared)(Q:VK)(u:Value)(s':Shared):Prop:=
 ∃v H',s'.os=s.os/\AllBare s'.gens/\Un (frs outer) [] H H' s.heap s'.heap/\HOk P w H' s'.heap/\RelV v u/\Q v H'
def CR (CX:CXT)(outer:List Env)(P:Program)(w:World)(H:Hp)(s:Shared)(Q:VK)(E:XK)(r:Result)(s':Shared):Prop:=
 match r with
 | .ok (.ret u)=>CE outer P w H s Q u s'
 | .ok _=>False
 | .error e=>CX outer H s E e s'
structure FnOk (P:Program)(w:World)(K:Aa3)(mg:Str->Option Value)(base:Heap)(CX:CXT)(k:Nat)(f:Addr)(fd:FuncData)(ps:List Str)(sp:Sp):Prop where
 len:∀vs H Q E,sp vs H Q E->vs.length=ps.length
 run:∀(A:Around) (outer:List Env) (s:Shared) (H:Hp) (args:Args) (us:List Value) (vs:List V) (Q:VK) (E:XK),Room k A->Env0 P w K mg base A outer s H->BindsTo s fd args (ps.zip us)->Vals vs us->sp vs H Q E->
  codeAny (model P w) A (.call (.ref f) args) (CR CX outer P w H s Q E) s
theorem FnOk.mono {P:Program}{w:World}{K:Aa3}{mg:Str->Option Value}{base:Heap}{CX:CXT}{j k:Nat}{f:Addr}{fd:FuncData}{ps:List Str}{sp:Sp}(F:FnOk P w K mg base CX j f fd ps sp)(h:j<=k):
  FnOk P w K mg base CX k f fd ps sp:=⟨F.len,λA outer s H args us vs Q E hr=>F.run A outer s H args us vs Q E (hr.mono h)⟩
theorem FnOk.imp {P:Program}{w:World}{K:Aa3}{mg:Str->Option Value}{base:Heap}{CX:CXT}{k:Nat}{f:Addr}{fd:FuncData}{ps:List Str}{sp sp':Sp}(F:FnOk P w K mg base CX k f fd ps sp)
  (h:∀vs H Q E,sp' vs H Q E->sp vs H Q E):FnOk P w K mg base CX k f fd ps sp':=
 ⟨λvs H Q E q=>F.len vs H Q E (h _ _ _ _ q),λA outer s H args us vs Q E hr he hb hv hs=>F.run A outer s H args us vs Q E hr he hb hv (h _ _ _ _ hs)⟩
theorem Env0.make {P:Program}{w:World}{K:Aa3}{mg:Str->Option Value}{base:Heap}{A:Around}{outer:List Env}{s:Shared}{H:Hp}(e:Env0 P w K mg base A outer s H)(C:Addr)(us:List Value)(kw:List (Str × Value)):
  Env0 P w K mg base (A.under (.builtin "type.__call__" ⟨.ref C::us,kw⟩)) outer s H:=⟨by first|exact e.frames|(simpa [Around.under,Code.envs,Code.isFrame,pushEnvs] using e.frames),e.mod,e.bs,e.bsz,e.funs,e.frf,e.hok,e.bare⟩
section
variable {X:Cx}{pins:List (Addr × Obj)}{σ:St}{H:Hp}{s s':Shared}
theorem Inv.env0 (I:Inv X pins σ H s):Env0 X.prog X.w X.K X.mg X.base X.A X.stack s H:=
 ⟨I.ok.frames,I.ok.mod,I.bs,Ac6 I.ok.bsz I.sz,I.stack,I.stkFree,I.hok,I.bare⟩
theorem Inv.after (I:Inv X pins σ H s)(h:CE X.stack X.prog X.w H s Q u s'):EP X pins σ Q u s':=by
 obtain⟨v,H',os,bare,un,hok,r,q⟩:=h
 obtain⟨hh,g,d,t,os'⟩:=s'
 obtain rfl:os'=s.os:=os
 exact⟨v,H',I.call (h':=hh) (g':=g) (d':=d) (t':=t) (ch:=[]) un hok bare (λb z=>absurd z (by simp)),r,q⟩
end
def nx0 (sp:Sp)(dvs:List V)(E:XK)(t:TA):TE:=λσ H Q=>t σ H λvs H1=>sp (vs++dvs) H1 Q E
def om0 (C:Addr)(m:Str)(sp:Sp)(dvs:List V)(E:XK)(ta:TE)(t:TA):TE:=λσ H Q=>ta σ H λx H1=>∃a dx fs,x=.ref a/\H1 a=some (.ins C dx fs)/\fs.lookup m=none/\
 t σ H1 λvs H2=>sp (x::(vs++dvs)) H2 Q E
def tMake (C:Addr)(sp:Sp)(dvs:List V)(E:XK)(t:TA):TE:=λσ H Q=>t σ H λvs H1=>∀x dx,H1 x=none->H1 dx=none->dx≠x->
 sp (.ref x::(vs++dvs)) (upd (upd H1 dx (.own x)) x (.ins C dx [])) (λv H2=>v=.non/\Q (.ref x) H2) E
def Binds (K:Aa3)(fd:FuncData)(ps:List Str)(ds:List Value):Prop:=
 ∀(s:Shared) (us:List Value),K.In s.heap->(us++ds).length=ps.length->BindsTo s fd ⟨us,[]⟩ (ps.zip (us++ds))
theorem Binds.all {K:Aa3}{fd:FuncData}{ps:List Str}(h:∀us:List Value,us.length=ps.length->bindArgs fd ⟨us,[]⟩=pure (ps.zip us)):Binds K fd ps []:=λs us _ hl=>by
 rw [Ag7] at hl ⊢
 exact .of_eq (h us hl)
def eJ0 (CX:CXT)(X:Cx)(E:XK):Prop:=∀(pins:List (Addr × Obj)) (σ:St) (H:Hp) (s:Shared) (e:Value) (s':Shared),Inv X pins σ H s->CX X.stack H s E e s'->X.xe e s'
section
variable {X:Cx}{CX:CXT}{k:Nat}{f C:Addr}{fd:FuncData}{ps:List Str}{sp:Sp}{dvs:List V}{ds:List Value}{E:XK}{x m:Str}{p pos apos:Pos}{e o:Expr}{es:List Expr}{ta:TE}{t:TA}
theorem md0 (F:FnOk X.prog X.w X.K X.mg X.base CX k f fd ps sp)(hr:Room k X.A)(hb:Binds X.K fd ps ds)(hd:Vals dvs ds)(hx:eJ0 CX X E)
  (I:Inv X pins σ H s) (r:Vals vs us) (h:sp (vs++dvs) H Q E):wpAny (model X.prog X.w) X.A (call (.ref f) us) (EP X pins σ Q) X.xe s:=by
 have r2:Vals (vs++dvs) (us++ds):=r.append hd
 have hl:(us++ds).length=ps.length:=by rw [<- r2.length]; exact F.len _ _ _ _ h
 refine wpAny_call (Ao4 (F.run X.A X.stack s H ⟨us,[]⟩ (us++ds) (vs++dvs) Q E hr I.env0 (hb s us I.kIn hl) r2 h) λr s' hq=> ?_)
 cases r with
 |error e=>exact hx pins σ H s e s' I hq
 |ok fl=>
  cases fl with
  |ret u=>exact I.after hq
  |next=>exact False.elim hq
  |brk=>exact False.elim hq
  |cont=>exact False.elim hq
theorem bL0 (F:FnOk X.prog X.w X.K X.mg X.base CX k f fd ps sp)(hr:Room k X.A)(hg:Gl X x)(hm:X.mg x=some (.ref f))(hk:PySem.W.keepIn X.K (.ref f)=true)(hb:Binds X.K fd ps ds)(hd:Vals dvs ds)(hx:eJ0 CX X E)
  (ha:PA X (e::es) t) (hdb:(x==("__debug__" :Str))=false:=by decide) (he:starEach (e::es) X.env=(false,eval e X.env)::starEach es X.env:=by rfl) (hpl:(backTo pos (starEach es X.env)).any (·.1)=false:=by rfl):
  PE X (.Call (.Name x p) (e::es) [] pos) (nx0 sp dvs E t):=by
 intro pins s σ H Q I h
 refine Aj2 (hY0 I hg hm ?_ hdb)
 refine As2 (h₀:=X.base) I.ok.mod.kin hk (thn (ha pos pins s σ H _ I h) λus s1 ⟨vs,H1,I1,r,q⟩=>⟨I1.kIn,?_⟩) he hpl
 exact md0 F hr hb hd hx I1 r q
theorem bH0 (he:PE X o ta)(c:Cls X.K C)(hm:Meth X.K C m f)(F:FnOk X.prog X.w X.K X.mg X.base CX k f fd ps sp)(hr:Room k X.A)(hb:Binds X.K fd ps ds)(hd:Vals dvs ds)(hx:eJ0 CX X E)(ha:PA X (e::es) t)
  (hst:starEach (e::es) X.env=(false,eval e X.env)::starEach es X.env:=by rfl) (hpl:(backTo pos (starEach es X.env)).any (·.1)=false:=by rfl)
  (ht:eval (.Call (.Attribute o m apos) (e::es) [] pos) X.env=(do
   let ov<- eval o X.env
   standAt apos.atName
   let (f,first)<- holding [ov] (getMethod ov m pl)
   callWith pos f first (backTo pos (starEach (e::es) X.env)) (backToKw pos (keywordEach [] X.env))):=by rfl):
  PE X (.Call (.Attribute o m apos) (e::es) [] pos) (om0 C m sp dvs E ta t):=by
 intro pins s σ H Q I h
 refine Aq2 (pl:=pl) (thn (he pins s σ H _ I h) λu s1 ⟨x,H1,I1,rx,a,dx,fs,ex,ea,l,q⟩=> ?_) ht
 subst ex
 obtain rfl:u=Value.ref a:=rx
 refine eh0 I1 ea c hm l ?_
 refine As2 (first:=[.ref a]) (h₀:=X.base) I.ok.mod.kin hm.kp (thn (ha pos pins s1 σ H1 _ I1 q) λus s2 ⟨vs,H2,I2,r,q2⟩=>⟨I2.kIn,?_⟩) hst hpl
 exact md0 (us:=.ref a::us) (vs:=.ref a::vs) F hr hb hd hx I2 (.cons rfl r) q2
theorem ci0 (he:PE X o ta)(c:Cls X.K C)(hm:Meth X.K C m f)(F:FnOk X.prog X.w X.K X.mg X.base CX k f fd ps sp)(hr:Room k X.A)(hb:Binds X.K fd ps ds)(hd:Vals dvs ds)(hx:eJ0 CX X E)
  (ht:eval (.Call (.Attribute o m apos) [] [] pos) X.env=(do
   let ov<- eval o X.env
   standAt apos.atName
   let (f,first)<- holding [ov] (getMethod ov m pl)
   callWith pos f first (backTo pos (starEach [] X.env)) (backToKw pos (keywordEach [] X.env))):=by rfl):
  PE X (.Call (.Attribute o m apos) [] [] pos) (om0 C m sp dvs E ta tNil):=by
 intro pins s σ H Q I h
 refine Aq2 (pl:=pl) (thn (he pins s σ H _ I h) λu s1 ⟨x,H1,I1,rx,a,dx,fs,ex,ea,l,q⟩=> ?_) ht
 subst ex
 obtain rfl:u=Value.ref a:=rx
 refine eh0 I1 ea c hm l ?_
 exact PySem.W.callWith_K0 (first:=[.ref a]) I1.kIn hm.kp (md0 (us:=[.ref a]) (vs:=[.ref a]) F hr hb hd hx I1 (.cons rfl .nil) q)
structure Mk (K:Aa3)(C f:Addr):Prop where
 makes:PySem.W.makesIn K C=true
 init:PySem.W.findIn K (.ref C) "__init__" =some (some (.ref f))
 fn:PySem.W.isFn K (.ref f)=true
 kp:PySem.W.keepIn K (.ref C)=true
theorem nH0 {H:Hp}{Q:VK}(M:Mk X.K C f)(F:FnOk X.prog X.w X.K X.mg X.base CX k f fd ps sp)(hr:Room (k+1) X.A)(hb:Binds X.K fd ps ds)(hd:Vals dvs ds)
  (hx:eJ0 CX X E) (I:Inv X pins σ H s) (r:Vals vs us)
  (h:∀x dx,H x=none->H dx=none->dx≠x->sp (.ref x::(vs++dvs)) (upd (upd H dx (.own x)) x (.ins C dx [])) (λv H2=>v=.non/\Q (.ref x) H2) E):
  wpAny (model X.prog X.w) X.A (call (.ref C) us) (EP X pins σ Q) X.xe s:=by
 have hq:=h (s.heap.objs.size+1) s.heap.objs.size (I.hok.fresh (Av2 _)) (I.hok.fresh (Ab1 _)) (Ad4 (Al8 _))
 have I2:=Inv.made (C:=C) I
 have r2:Vals (V.ref (s.heap.objs.size+1)::(vs++dvs)) (Value.ref (s.heap.objs.size+1)::(us++ds)):=.cons rfl (r.append hd)
 have hl:(Value.ref (s.heap.objs.size+1)::us++ds).length=ps.length:=by
  have e:=r2.length
  rw [F.len _ _ _ _ hq] at e
  exact e.symm
 refine wpAny_call (nN0 (f:=f) I.kIn M.makes M.init (beq_iff_eq.mp M.fn) (Ao4 (F.run _ X.stack _ _ ⟨Value.ref (s.heap.objs.size+1)::us,[]⟩ (Value.ref (s.heap.objs.size+1)::(us++ds)) _ _ E (hr.make C us [])
  (I2.env0.make C us []) (hb _ (Value.ref (s.heap.objs.size+1)::us) I2.kIn hl) r2 hq) λr s' hq'=> ?_))
 cases r with
 |error e=>exact hx pins σ _ _ e s' I2 hq'
 |ok fl=>
  cases fl with
  |ret u=>
   obtain⟨v,H',I3,rv,ev,q3⟩:=I2.after hq'
   subst ev
   exact⟨rv,⟨V.ref (s.heap.objs.size+1),H',I3,rfl,q3⟩⟩
  |next=>exact False.elim hq'
  |brk=>exact False.elim hq'
  |cont=>exact False.elim hq'
theorem fd0 (M:Mk X.K C f)(F:FnOk X.prog X.w X.K X.mg X.base CX k f fd ps sp)(hr:Room (k+1) X.A)(hg:Gl X x)(hm:X.mg x=some (.ref C))(hb:Binds X.K fd ps ds)(hd:Vals dvs ds)(hx:eJ0 CX X E)
  (ha:PA X (e::es) t) (hdb:(x==("__debug__" :Str))=false:=by decide) (he:starEach (e::es) X.env=(false,eval e X.env)::starEach es X.env:=by rfl) (hpl:(backTo pos (starEach es X.env)).any (·.1)=false:=by rfl):
  PE X (.Call (.Name x p) (e::es) [] pos) (tMake C sp dvs E t):=by
 intro pins s σ H Q I h
 refine Aj2 (hY0 I hg hm ?_ hdb)
 refine As2 (h₀:=X.base) I.ok.mod.kin M.kp (thn (ha pos pins s σ H _ I h) λus s1 ⟨vs,H1,I1,r,q⟩=>⟨I1.kIn,?_⟩) he hpl
 exact nH0 M F hr hb hd hx I1 r q
end
def PK (X:Cx)(kws:List Keyword)(t:TA):Prop:=
 ∀(pos:Pos) (pins:List (Addr × Obj)) (s:Shared) (σ:St) (H:Hp) (Q:List V->Hp->Prop),Inv X pins σ H s->t σ H Q->wpAny (model X.prog X.w) X.A (evalAll ((backToKw pos (keywordEach kws X.env)).map (·.2))) (AP X pins σ Q) X.xe s
section
variable {X:Cx}{CX:CXT}{k:Nat}{f C:Addr}{fd:FuncData}{ps ks:List Str}{sp:Sp}{E:XK}{x m:Str}{p pos apos kpos:Pos}{e o:Expr}{es:List Expr}{kws:List Keyword}{te ta:TE}{t tk:TA}{nm:Option Str}
theorem se0:PK X [] tNil:=λ_ _ _ _ H Q I h=>wpAny_evalAll_nil ⟨[],H,I,.nil,h⟩
theorem pi0 (ha:PE X e te)(hr:PK X kws t):PK X (⟨nm,e,kpos⟩::kws) (fy0 te t):=by
 intro pos pins s σ H Q I h
 show wpAny _ _ (evalAll ((do let v<- eval e X.env; standAt pos; pure v)::(backToKw pos (keywordEach kws X.env)).map (·.2))) _ _ s
 refine wpAny_evalAll_cons (Aa0 (thn (ha pins s σ H _ I h) λu s1 ⟨x,H1,I1,r1,q1⟩=>Aa0 (wpAny_standAt (Aa8 ?_))))
 exact thn (hr pos pins s1 σ H1 _ I1 q1) λus s2 ⟨xs,H2,I2,r2,q2⟩=>⟨x::xs,H2,I2,.cons r1 r2,q2⟩
variable {g:List Value->List Value->List Value}{gV:List V->List V->List V}
end
structure FnScope (N P:List Str)(sc:Scope):Prop where
 kind:sc.kind=.function
 co:sc.isCoroutine=false
 gen:sc.isGenerator=false
 nd:N.Nodup
 pre:N.take P.length=P
 par:∀x∈P,sc.names.lookup x=some .local\/ sc.names.lookup x=some .cell
 nofree:∀y∈sc.names,y.2≠ .free
theorem hO0 {kindOf:Str->Option NameKind}:∀{binds:List (Str × Value)} {m:Str->Option Value},(∀v,(x,v)∉binds)->bindL kindOf binds m x=m x
 | [],_,_=>rfl
 | (n,v)::r,m,h=>by
  unfold bindL
  rw [hO0 λw hw=>h w (Ae6 _ hw)]
  split
  ·have:x≠n:=by rintro rfl; exact h v Af8
   simp [this]
  ·rfl
theorem hI0 {kindOf:Str->Option NameKind}:∀{binds:List (Str × Value)} {m:Str->Option Value},(∀v,(x,v)∉binds)->bindC kindOf binds m x=m x
 | [],_,_=>rfl
 | (n,v)::r,m,h=>by
  unfold bindC
  rw [hI0 λw hw=>h w (Ae6 _ hw)]
  split
  ·rfl
  ·have:x≠n:=by rintro rfl; exact h v Af8
   simp [this]
theorem gF0 {kindOf:Str->Option NameKind}:∀{P:List Str} {vs:List Value} {i:Nat} {m:Str->Option Value},P.Nodup->P[i]?=some x->vs[i]?=some v->kindOf x=some .local->
  bindL kindOf (P.zip vs) m x=some v
 | [],_,_,_,_,h,_,_=>by simp at h
 |_::_,[],_,_,_,_,h,_=>by simp at h
 |p::P,w::vs,0,m,nd,h1,h2,hk=>by
  simp at h1 h2; subst h1; subst h2
  show bindL kindOf ((p,w)::P.zip vs) m p=_
  unfold bindL
  rw [hO0 λv hv=>(Ae8.mp nd).1 (An9 hv).1,if_pos hk]
  simp
 |p::P,w::vs,i+1,m,nd,h1,h2,hk=>by
  show bindL kindOf ((p,w)::P.zip vs) m x=_
  unfold bindL
  exact gF0 (i:=i) (Ae8.mp nd).2 (by simpa using h1) (by simpa using h2) hk
theorem hP0 {kindOf:Str->Option NameKind}:∀{P:List Str} {vs:List Value} {i:Nat} {m:Str->Option Value},P.Nodup->P[i]?=some x->vs[i]?=some v->kindOf x≠some .local->
  bindC kindOf (P.zip vs) m x=some v
 | [],_,_,_,_,h,_,_=>by simp at h
 |_::_,[],_,_,_,_,h,_=>by simp at h
 |p::P,w::vs,0,m,nd,h1,h2,hk=>by
  simp at h1 h2; subst h1; subst h2
  show bindC kindOf ((p,w)::P.zip vs) m p=_
  unfold bindC
  rw [hI0 λv hv=>(Ae8.mp nd).1 (An9 hv).1,if_neg hk]
  simp
 |p::P,w::vs,i+1,m,nd,h1,h2,hk=>by
  show bindC kindOf ((p,w)::P.zip vs) m x=_
  unfold bindC
  exact hP0 (i:=i) (Ae8.mp nd).2 (by simpa using h1) (by simpa using h2) hk
def start (N:List Str)(vs:List V):St:=vs.map some++List.replicate (N.length - vs.length) none
def cxOf (CX:CXT)(P:Program)(w:World)(K:Aa3)(mg:Str->Option Value)(base:Heap)(N:List Str)(qual:Str)(scope:Scope)(f:Addr)(cd:Value)(A:Around)(outer:List Env)(s:Shared)(H:Hp)(E:XK):Cx where
 prog:=P
 w:=w
 K:=K
 mg:=mg
 base:=base
 A:=A.deeper (envOfC qual scope s.heap.objs.size f cd)
 N:=N
 s₀:=s
 H₀:=H
 env:=envOfC qual scope s.heap.objs.size f cd
 outer:=outer
 stack:=envOfC qual scope s.heap.objs.size f cd::outer
 ex:=[]
 calm:=true
 fn:=λ_=>true
 pn:=[]
 xe:=λe s'=>wpAny (model P w) (A.deeper (envOfC qual scope s.heap.objs.size f cd)) (leaving (envOfC qual scope s.heap.objs.size f cd) e) (λ_ s''=>CX outer H s E e s'') (λe' s''=>CX outer H s E e' s'') s'
theorem jx0 {sc:Scope}(h:sc.names.lookup x=some .cell):∃c,(cellsFrom n sc.names []).lookup x=some c:=by
 have q:=Av3 sc.names n [] (.inl h)
 exact Al9.mp q
theorem lz0 {CX:CXT}{P:Program}{w:World}{K:Aa3}{mg:Str->Option Value}{base:Heap}{N ps:List Str}{qual:Str}{scope:Scope}{f:Addr}{cd:Value}{A:Around}{outer:List Env}{s s1:Shared}{H:Hp}{E:XK}{us:List Value}{vs:List V}
  (S:FnScope N ps scope) (hd:A.handled=none) (e0:Env0 P w K mg base A outer s H) (hl:vs.length=ps.length) (r:Vals vs us)
  (x:InCallC s s.heap.objs.size (bindL (envOfC qual scope s.heap.objs.size f cd).kindOf (ps.zip us) λ_=>none) (cellsFrom (s.heap.objs.size+1) scope.names []) (bindC (envOfC qual scope s.heap.objs.size f cd).kindOf (ps.zip us) λ_=>none) s1):
  Inv (cxOf CX P w K mg base N qual scope f cd A outer s H E) [] (start N vs) H s1:=by
 have hpl:ps.length<=N.length:=by have:=congrArg List.length S.pre; rw [Af7] at this; omega
 obtain⟨h1,tk,rfl,hk⟩:=x.done
 have noA:∀b:Addr,b∉(cxOf CX P w K mg base N qual scope f cd A outer s H E).ex:=λb z=>absurd (show b∈([]:List Addr) from z) (by simp)
 refine⟨⟨e0.mod,S.kind,rfl,rfl,Ab1 _,λy z c h1 h2=> ?_,λy hy=> ?_,λy c _ h=> ?_,λ_=>hd,Around.frames_deeper e0.frames,.inr ⟨rfl,rfl⟩,λb z=>absurd z (noA b),e0.bs,e0.bsz,λb _ _=>noA b,λb z=>absurd z (noA b),e0.funs,e0.frf⟩,
  rfl,e0.bare,Un.kept hk,⟨_,x.toInCall.ns,λi y v h1 h2 h3=> ?_⟩,λy c h=>⟨_,x.cell y c h⟩,e0.hok.fresh (Ab1 _),λy c h=> ?_,λp hp=>absurd (show p∈([]:List (Addr × Obj)) from hp) (by simp),e0.hok.kept hk,?_⟩
 ·exact name_of_addr x.apart (Ah9 h1) (Ah9 h2)
 ·have hy:scope.names.lookup y=some .cell\/ scope.names.lookup y=some .free:=hy
  rcases hy with hy|hy
  ·exact jx0 hy
  ·exact absurd rfl (S.nofree _ (Ah9 hy))
 ·exact Aw2 (x.above y c (Ah9 h))
 ·have hi:i<vs.length:=by
   unfold start at h2
   by_cases hi:i<vs.length
   ·exact hi
   ·rw [Ab9 (by simpa using hi)] at h2
    rw [Af5] at h2
    split at h2<;>cases h2
  have ha:vs[i]?=some v:=by
   unfold start at h2
   rw [Ab3 (by simpa using hi),Ab0] at h2
   cases e:vs[i]? with
   |none=>rw [e] at h2; cases h2
   |some a=>rw [e] at h2; cases h2; rfl
  obtain⟨u,hu,rv⟩:=r.get ha
  have hp:ps[i]?=some y:=by
   rw [<- S.pre,List.getElem?_take_of_lt (by omega)]; exact h1
  have ndP:ps.Nodup:=by rw [<- S.pre]; exact S.nd.sublist (List.take_sublist _ _)
  refine⟨u,rv,?_⟩
  rcases S.par y (Ac7 hp) with k|k
  ·exact .inl ⟨k,gF0 ndP hp hu k⟩
  ·obtain⟨c,e⟩:=jx0 (n:=s.heap.objs.size+1) k
   refine .inr ⟨.inl k,c,e,?_⟩
   have q:=x.cell y c e
   rw [hP0 ndP hp hu (by show scope.names.lookup y≠_; rw [k]; decide)] at q
   exact q
 ·exact e0.hok.fresh (Aw2 (x.above y c (Ah9 h)))
 ·unfold start
  show _=N.length
  rw [Aa5,Aa1,Af3]
  omega
theorem fn_of {CX:CXT}{P:Program}{w:World}{K:Aa3}{mg:Str->Option Value}{base:Heap}{k:Nat}{f:Addr}{name qual:Str}{params:Arguments}{body:List Stmt}{scope:Scope}{dV kV doc pm cdv ct oc:Value}{an od:Option Addr}
  {osl:Array (Option Value)} {N ps:List Str} {sp:Sp} (lk:K.lookup f=some ⟨oc,od,.func (PySem.W.fnOf name qual params body scope dV kV doc pm an cdv ct),osl⟩) (hcd:PySem.W.codeIn K cdv qual=true) (S:FnScope N ps scope)
  (len:∀vs H Q E,sp vs H Q E->vs.length=ps.length)
  (hbody:∀(A:Around) (outer:List Env) (s:Shared) (H:Hp) (vs:List V) (Q:VK) (E:XK),Room k (A.deeper (envOfC qual scope s.heap.objs.size f cdv))->sp vs H Q E->
   ∃t,PSs (cxOf CX P w K mg base N qual scope f cdv A outer s H E) body t/\t {nx:=λ_ H'=>Q .non H',rt:=Q} (start N vs) H):
  FnOk P w K mg base CX (k+1) f (PySem.W.fnOf name qual params body scope dV kV doc pm an cdv ct) ps sp:=by
 refine⟨len,λA outer s H args us vs Q E hr e0 hb r hsp=> ?_⟩
 have hl:=len _ _ _ _ hsp
 have KX:K.In s.heap:=e0.mod.kin.keeps λb o e=>(e0.bs b o e).1
 have lim:s.heap.NoLimit:=e0.mod.nolimit.keeps λb o e=>(e0.bs b o e).1
 have hkind:∀y∈ps.zip us,scope.names.lookup y.1=some .local\/ (scope.names.lookup y.1=some .cell/\((cellsFrom (s.heap.objs.size+1) scope.names []).lookup y.1).isSome=true):=λ⟨n,v⟩ hy=>by
  rcases S.par n (An9 hy).1 with q|q
  ·exact .inl q
  ·exact .inr ⟨q,Av3 _ _ _ (.inl q)⟩
 refine codeAny_call_function hr.depth (KX _ _ lk) rfl S.co S.gen rfl (PySem.W.codeRec_of KX hcd) (hb _ _ _ _ ?_)
 refine wpAny_newFunctionEnv_cells S.kind hkind λenv he s1 x=> ?_
 subst he
 refine⟨lim.keeps x.toInCall.keep,codeAny_func ?_⟩
 obtain⟨t,ht,hq⟩:=hbody A outer s H vs Q E (hr.deeper _) hsp
 have I:Inv (cxOf CX P w K mg base N qual scope f cdv A outer s H E) [] (start N vs) H s1:=lz0 S hr.hd e0 hl r x
 refine Aj7 (ht [] s1 (start N vs) H _ I hq) (λfl s' hs=> ?_) λe s' hs=>hs
 have fin:∀{σ':St} {H':Hp} {v:V} {u:Value},Inv (cxOf CX P w K mg base N qual scope f cdv A outer s H E) [] σ' H' s'->RelV v u->Q v H'->CE outer P w H s Q u s':=
  λ{σ' H' v u} J rv q=>⟨v,H',J.os,J.bare,J.base,J.hok,rv,q⟩
 cases fl with
 |ret u=>
  obtain⟨v,σ',H',J,rv,q⟩:=hs
  exact fin J rv q
 |next=>
  obtain⟨σ',H',J,q⟩:=hs
  exact fin (v:=V.non) (u:=Value.none) J rfl q
 |brk=>
  obtain⟨_,_,_,q⟩:=hs
  exact False.elim q
 |cont=>
  obtain⟨_,_,_,q⟩:=hs
  exact False.elim q
section
variable {X:Cx}{x:Str}{p pos:Pos}{e:Expr}{es:List Expr}{t:TA}{id T:String}{r:List V->Hp->VK->Prop}
def tCB (r:List V->Hp->VK->Prop)(t:TA):TE:=λσ H Q=>t σ H λvs H1=>r vs H1 Q
theorem bV0 (hc:ds0 X (.builtin id) r)(hg:Gl X x)(hm:X.mg x=none)(hv:bootBuiltins x=some (.builtin id))(ha:PA X (e::es) t)(hn:x≠ "__name__" :=by decide) (hdb:(x==("__debug__" :Str))=false:=by decide)
  (he:starEach (e::es) X.env=(false,eval e X.env)::starEach es X.env:=by rfl) (hpl:(backTo pos (starEach es X.env)).any (·.1)=false:=by rfl):PE X (.Call (.Name x p) (e::es) [] pos) (tCB r t):=by
 intro pins s σ H Q I h
 refine Aj2 (en0 I hg hm hv ?_ hn hdb)
 exact Aq5 (thn (ha pos pins s σ H _ I h) λus s1 ⟨vs,H1,I1,r1,q1⟩=>hc pins s1 σ H1 vs us Q I1 r1 q1) he hpl
theorem hH0 (hc:ds0 X (.type T) r)(hg:Gl X x)(hm:X.mg x=none)(hv:bootBuiltins x=some (.type T))(ha:PA X (e::es) t)(hn:x≠ "__name__" :=by decide) (hdb:(x==("__debug__" :Str))=false:=by decide)
  (he:starEach (e::es) X.env=(false,eval e X.env)::starEach es X.env:=by rfl) (hpl:(backTo pos (starEach es X.env)).any (·.1)=false:=by rfl):PE X (.Call (.Name x p) (e::es) [] pos) (tCB r t):=by
 intro pins s σ H Q I h
 refine Aj2 (en0 I hg hm hv ?_ hn hdb)
 exact Ak8 (thn (ha pos pins s σ H _ I h) λus s1 ⟨vs,H1,I1,r1,q1⟩=>hc pins s1 σ H1 vs us Q I1 r1 q1) he hpl
end
end L2
namespace HT
open PySem PyProof.Rows
section
open PySem.SeqAt
open PySem.AutoSeq1 (wpAny_loadPart')
open PySem.MeetsSeq PySem.MeetsSeq2 PySem.MeetsSeq3
end
section
variable {prog:Program}{w:World}{A:Around}{E:Value->Shared->Prop}{s:Shared}
theorem cat_tup {vs ws:List Value}{Q:Value->Shared->Prop}(ht:IsTup s.heap t vs.toArray)(hb:IsTup s.heap b ws.toArray)(hv:vs≠ [])
  (h1:ws=[]->Q (.ref t) s) (h2:ws≠ []->Q (.ref s.heap.objs.size) {s with heap:=s.heap.push {cls:=.type "tuple",data:=.seq (vs++ws).toArray}})
  (hsz:vs.length+ws.length<=sizeLine):wpAny (model prog w) A (binaryOp .Add (.ref t) (.ref b)) Q E s:=by
 obtain⟨⟨cls,dd,data,sl⟩,ho,hc,n,hd⟩:=id ht
 obtain⟨⟨cls2,dd2,data2,sl2⟩,ho2,hc2,n2,hd2⟩:=id hb
 simp only at hc hd hc2 hd2
 subst hc hd hc2 hd2
 have e:vs.toArray++ws.toArray=(vs++ws).toArray:=by simp
 by_cases hw:ws=[]
 ·exact concat_meets ⟨_,ho,rfl⟩ ⟨_,ho2,rfl⟩ Au2 seq_tuple_add Ap2 Ao7 (Ao0 _ _)
   (tuple_addW1 t b vs.toArray ws.toArray n n2 dd dd2 sl sl2 (by simpa using hv) (by simp [hw])) ⟨ho,ho2,h1 hw⟩
 ·refine concat_meets ⟨_,ho,rfl⟩ ⟨_,ho2,rfl⟩ Au2 seq_tuple_add Ap2 Ao7 (Ao0 _ _)
   (tuple_addW2 t b vs.toArray ws.toArray n n2 dd dd2 sl sl2 (by simpa using hv) (by simpa using hw) (by rw [Ab8,Ab8]; exact hsz)) ⟨ho,ho2,?_⟩
  rw [e]
  exact h2 hw
def sIx (n d:Nat):Option Int->Nat
 |none=>d
 |some v=>if v<0 then(v+(n:Int)).toNat else min v.toNat n
theorem sIx_none (n d:Nat):sIx n d none=d:=rfl
theorem sIx_nat (n d k:Nat):sIx n d (some (k:Int))=min k n:=by
 show (if(k:Int)<0 then((k:Int)+(n:Int)).toNat else min (k:Int).toNat n)=min k n
 rw [if_neg (by omega),Ac9]
theorem rU0 (n d:Nat)(hd:d<=n)(o:Option Int):sIx n d o<=n:=by
 cases o with
 |none=>exact hd
 |some v=>
  show (if v<0 then(v+(n:Int)).toNat else min v.toNat n)<=n
  by_cases hv:v<0
  ·rw [if_pos hv]; omega
  ·rw [if_neg hv]; exact At3 _ _
theorem ls0 (v:Int)(n d:Nat):(if v<0 then max (v+(n:Int)) 0 else min v (n:Int))=((sIx n d (some v):Nat):Int):=by
 show (if v<0 then max (v+(n:Int)) 0 else min v (n:Int))=(((if v<0 then(v+(n:Int)).toNat else min v.toNat n):Nat):Int)
 by_cases hv:v<0
 ·simp only [if_pos hv]; omega
 ·simp only [if_neg hv]; omega
theorem kM0 (lo hi:Option Int)(n:Nat):Builtin.Slice.sliceAdjust lo hi 1 (n:Int)=(((sIx n 0 lo:Nat):Int),((sIx n n hi:Nat):Int)):=by
 have h1:¬((1:Int)<0):=by omega
 unfold Builtin.Slice.sliceAdjust
 simp only [h1,Ah2]
 refine Prod.ext ?_ ?_
 ·cases lo with
  |none=>rfl
  |some v=>exact ls0 v n 0
 ·cases hi with
  |none=>rfl
  |some v=>exact ls0 v n n
theorem ky0 (i j:Nat):Builtin.Slice.slicePlaces (i:Int) (j:Int) 1=j - i:=by
 unfold Builtin.Slice.slicePlaces
 have h1:(1:Int)>0:=by omega
 simp only [h1,Al1,Int.ediv_one]
 split<;>omega
theorem fJ0 {Q:Option Int->Shared->Prop}(p:IsPart v o)(h:Q o s):wpAny (model prog w) A (Builtin.Slice.slicePartIndex v) Q E s:=by
 cases p with
 |none=>exact slicePart_none h
 |int i t=>exact slicePart_int h
theorem sliceApplied_gen {sl:Addr}{vl vu:Value}{lo hi:Option Int}{n:Nat}{Q:Int × Int × Nat->Shared->Prop}(hs:s.heap.IsSliceOf sl vl vu .none)(pl:IsPart vl lo)(pu:IsPart vu hi)
  (h:Q (((sIx n 0 lo:Nat):Int),1,sIx n n hi - sIx n 0 lo) s):wpAny (model prog w) A (Builtin.Slice.sliceApplied (.ref sl) (pure (n:Int))) Q E s:=by
 obtain⟨os,hos,hcs,hds⟩:=id hs
 unfold Builtin.Slice.sliceApplied Builtin.Slice.sliceFields
 refine Aa0 (Aa0 (Ai5 hos hds (x:=vl) rfl (Aa0 (Ai5 hos hds (x:=vu) rfl (Aa0 (Ai5 hos hds (x:=.none) rfl (Aa8 ?_)))))))
 refine Aa0 (slicePart_none ?_)
 show wpAny _ _ (if((1:Int)==0)=true then _ else _) _ _ s
 rw [if_neg (by decide)]
 refine Aa0 (fJ0 pl (Aa0 (fJ0 pu (Aa0 (Aa8 ?_)))))
 show wpAny _ _ (match Builtin.Slice.sliceAdjust lo hi 1 (n:Int) with|(lo,hi)=>pure (lo,(1:Int),Builtin.Slice.slicePlaces lo hi 1)) _ _ s
 rw [kM0 lo hi n]
 show wpAny _ _ (pure (((sIx n 0 lo:Nat):Int),(1:Int),Builtin.Slice.slicePlaces ((sIx n 0 lo:Nat):Int) ((sIx n n hi:Nat):Int) 1)) _ _ s
 rw [ky0]
 exact Aa8 h
theorem nA0 (xs:Array Value)(i k:Nat):((List.range k).filterMap λ(m:Nat)=>xs[((i:Int)+(m:Int)*1).toNat]?).toArray=((xs.toList.drop i).take k).toArray:=by
 have e:(λ(m:Nat)=>xs[((i:Int)+(m:Int)*1).toNat]?)=λm=>xs[i+m]?:=by
  funext m
  have:((i:Int)+(m:Int)*1).toNat=i+m:=by omega
  rw [this]
 rw [e]
 have:=pick_run xs i k
 rw [List.filterMap_map] at this
 have e2:((λx=>xs[x]?)∘λx=>i+x)=λm=>xs[i+m]?:=rfl
 rw [e2] at this
 rw [this]
theorem getItem_tuple_cut {t sl:Addr}{items:Array Value}{vl vu:Value}{lo hi:Option Int}{Q:Value->Shared->Prop}(ht:IsTup s.heap t items)(hs:s.heap.IsSliceOf sl vl vu .none)(pl:IsPart vl lo)(pu:IsPart vu hi)
  (hw:¬(sIx items.size 0 lo=0/\sIx items.size items.size hi=items.size))
  (h:Q (.ref s.heap.objs.size) {s with heap:=s.heap.push {cls:=.type "tuple",data:=.seq ((items.toList.drop (sIx items.size 0 lo)).take (sIx items.size items.size hi - sIx items.size 0 lo)).toArray}})
  (hsz:items.size<=sizeLine):wpAny (model prog w) A (getItem (.ref t) (.ref sl)) Q E s:=by
 have htake:sizeOk (.seq ((items.toList.drop (sIx items.size 0 lo)).take (sIx items.size items.size hi - sIx items.size 0 lo)).toArray):=by
  show ((items.toList.drop (sIx items.size 0 lo)).take (sIx items.size items.size hi - sIx items.size 0 lo)).toArray.size<=sizeLine
  rw [Ab8,Af7,Ak6,Am3]
  omega
 have hj:sIx items.size items.size hi<=items.size:=rU0 _ _ (Ab1 _) hi
 obtain⟨os,hos,hcs,hds⟩:=id hs
 have hTs:s.TypeIs (.ref sl) "slice" :=⟨os,hos,hcs⟩
 unfold getItem
 try with_reducible refine Al3 ?_
 first|refine Aa0 (Aa8 ?_)|skip
 refine Aa0 (wpAny_sequenceKey ht.typeIs (by decide) ?_)
 refine Aa0 (Ag1 (name:=Str.ofString "__getitem__") ht.typeIs Aj9
  (Ah6 Aj9 ht.typeIs entry_tuple_getitem ?_ (args_tuple_getitem _ _)))
 show wpAny _ _ (Builtin.Tuple.tupleItemsOf (.ref t)>>=_) _ _ s
 refine Aa0 (tupleItemsOf_ ht ?_)
 refine Aa0 (Ar0 hTs ?_)
 rw [if_pos (by decide)]
 refine Aa0 (sliceApplied_gen hs pl pu ?_)
 have hno:¬((((sIx items.size 0 lo:Nat):Int)==0 && (1:Int)==1 && (sIx items.size items.size hi - sIx items.size 0 lo)==items.size)=true):=by
  intro q
  rw [Ac8,Ac8] at q
  have q1:((sIx items.size 0 lo:Nat):Int)=0:=eq_of_beq q.1.1
  have q2:sIx items.size items.size hi - sIx items.size 0 lo=items.size:=eq_of_beq q.2
  exact hw ⟨by omega,by omega⟩
 show wpAny _ _ (if(((sIx items.size 0 lo:Nat):Int)==0 && (1:Int)==1 && (sIx items.size items.size hi - sIx items.size 0 lo)==items.size)=true then _ else _) _ _ s
 rw [if_neg hno,nA0]
 first
  |exact Aa0 (m:=Builtin.Tuple.tupleExact _) (Ah1 (Aa8 ⟨_,rfl,Aa8 h⟩) htake)
  |exact Aa0 (m:=Builtin.Tuple.tupleExact _) (Ah1 (Aa0 (Aa8 (Aa8 ⟨_,rfl,Aa8 h⟩))) htake)
  |exact Aa0 (Aa0 (m:=Builtin.Tuple.tupleExact _) (Ah1 (Aa8 (Aa8 ⟨_,rfl,Aa8 h⟩)) htake))
  |exact Aa0 (Aa0 (m:=Builtin.Tuple.tupleExact _) (Ah1 (Aa8 ⟨_,rfl,Aa8 h⟩) htake))
end
end HT
namespace L2
abbrev TO:=St->Hp->(Option Int->Hp->Prop)->Prop
def PO (X:Cx)(e:Option Expr)(t:TO):Prop:=
 ∀(pins:List (Addr × Obj)) (s:Shared) (σ:St) (H:Hp) (Q:Option Int->Hp->Prop),Inv X pins σ H s->t σ H Q->
  wpAny (model X.prog X.w) X.A (evalPart e X.env) (λu s'=>∃o H',Inv X pins σ H' s'/\IsPart u o/\Q o H') X.xe s
def pO0:TO:=λ_ H Q=>Q none H
def tPart (t:TE):TO:=λσ H Q=>t σ H λx H1=>∃i,x=.int i/\Q (some i) H1
section
variable {X:Cx}{e:Expr}{te:TE}{lo hi:Option Expr}{tl th:TO}{pos p2:Pos}
theorem iu0:PO X none pO0:=by
 intro pins s σ H Q I h
 rw [evalPart_none]
 exact Aa8 ⟨none,H,I,.none,h⟩
theorem if0 (h:PE X e te):PO X (some e) (tPart te):=by
 intro pins s σ H Q I hw
 rw [evalPart_some]
 refine thn (h pins s σ H _ I hw) λu s1 ⟨x,H1,I1,r1,q1⟩=> ?_
 obtain⟨i,rfl,q⟩:=q1
 obtain⟨t,rfl⟩:=r1
 exact⟨some i,H1,I1,.int i t,q⟩
def SlR (X:Cx)(r:V->Option Int->Option Int->Hp->VK->Prop):Prop:=
 ∀(pins:List (Addr × Obj)) (s:Shared) (σ:St) (H:Hp) (x:V) (v vl vu:Value) (lo hi:Option Int) (sl:Addr) (Q:VK),Inv X pins σ H s->RelV x v->s.heap.IsSliceOf sl vl vu .none->IsPart vl lo->IsPart vu hi->r x lo hi H Q->
  ∃T id,typeLookup (.type T) "__getitem__" =pure (some (.builtin id))/\s.TypeIs v T/\wpAny (model X.prog X.w) X.A (getItem v (.ref sl)) (EP X pins σ Q) X.xe s
theorem SlR.or {r r':V->Option Int->Option Int->Hp->VK->Prop}(h:SlR X r)(h':SlR X r'):SlR X (λx lo hi H Q=>r x lo hi H Q\/ r' x lo hi H Q):=by
 intro pins s σ H x v vl vu lo hi sl Q I rx hs pl pu q
 rcases q with q|q
 ·exact h pins s σ H x v vl vu lo hi sl Q I rx hs pl pu q
 ·exact h' pins s σ H x v vl vu lo hi sl Q I rx hs pl pu q
def tSl (r:V->Option Int->Option Int->Hp->VK->Prop)(te:TE)(tl th:TO):TE:=λσ H Q=>te σ H λx H1=>tl σ H1 λl H2=>th σ H2 λu H3=>r x l u H3 Q
theorem eD0 {r:V->Option Int->Option Int->Hp->VK->Prop}(hr:SlR X r)(he:PE X e te)(hl:PO X lo tl)(hu:PO X hi th):PE X (.Subscript e (.Slice lo hi none p2) pos) (tSl r te tl th):=by
 intro pins s σ H Q I h
 refine Subscript_ (thn (he pins s σ H _ I h) λv s1 ⟨x,H1,I1,r1,q1⟩=> ?_)
 refine wpAny_Slice (thn (hl pins s1 σ H1 _ I1 q1) λvl s2 ⟨l,H2,I2,pl,q2⟩=>thn (hu pins s2 σ H2 _ I2 q2) λvu s3 ⟨u,H3,I3,pu,q3⟩=> ?_)
 rw [evalPart_none]
 refine Aa8 ?_
 have I4:Inv X pins σ H3 {s3 with heap:=s3.heap.push {cls:=.type "slice",data:=.fields #[vl,vu,.none]}}:=I3.kept (t':=s3.toks) λb ob q=>Aa7 _ q
 obtain⟨T,id,hT,ht,hg⟩:=hr pins {s3 with heap:=s3.heap.push {cls:=.type "slice",data:=.fields #[vl,vu,.none]}} σ H3 x v vl vu l u s3.heap.objs.size Q I4 r1 (Heap.IsSliceOf.new ..) pl pu q3
 show wpAny (model X.prog X.w) X.A (subscriptTail e (.Slice lo hi none p2) v (.ref s3.heap.objs.size)) (EP X pins σ Q) X.xe {s3 with heap:=s3.heap.push {cls:=.type "slice",data:=.fields #[vl,vu,.none]}}
 exact tail_any (ops:=[.ref s3.heap.objs.size,v]) ht hT hg (by with_unfolding_all rfl)
def cutV (xs:List V)(lo hi:Option Int):List V:=(xs.drop (HT.sIx xs.length 0 lo)).take (HT.sIx xs.length xs.length hi - HT.sIx xs.length 0 lo)
theorem eW0 (xs:List V)(lo hi:Option Int):(cutV xs lo hi).length<=xs.length:=by
 unfold cutV
 rw [Af7,Ak6]
 omega
def rSlT (K:Aa3):V->Option Int->Option Int->Hp->VK->Prop:=λx lo hi H Q=>∃a xs,x=.ref a/\SqT K H a xs/\
 ¬(HT.sIx xs.length 0 lo=0/\HT.sIx xs.length xs.length hi=xs.length)/\∀p,H p=none->Q (.ref p) (upd H p (.tup (cutV xs lo hi)))
theorem rS0:SlR X (rSlT X.K):=by
 intro pins s σ H x v vl vu lo hi sl Q I rx hs pl pu h
 obtain⟨a,xs,rfl,hx,hw,q⟩:=h
 cases rx
 obtain⟨its,r,ht,hz⟩:=I.tuple hx
 have hlen:its.toArray.size=xs.length:=by rw [Ab8]; exact r.length.symm
 refine⟨"tuple",_,PyProof.Rows.slot_tuple_getitem.lookup,ht.typeIs,?_⟩
 refine HT.getItem_tuple_cut ht hs pl pu (by rw [hlen]; exact hw) ?_ (by rw [hlen]; exact hz)
 rw [hlen]
 refine⟨.ref s.heap.objs.size,_,I.laid (t':=s.toks) (o:=.tup (cutV xs lo hi)) (λb ob q=>Aa7 _ q) (Ab1 _) ?_,rfl,q _ (I.hok.fresh (Ab1 _))⟩
 exact⟨Ac6 (eW0 xs lo hi) hz,_,(r.drop (HT.sIx xs.length 0 lo)).take (HT.sIx xs.length xs.length hi - HT.sIx xs.length 0 lo),IsTup.new _ _,_,Ab7 _ rfl,rfl⟩
def rCatT (K:Aa3):R2:=λx y H Q=>∃a b xs ys,x=.ref a/\y=.ref b/\SqT K H a xs/\SqT K H b ys/\xs≠ []/\xs.length+ys.length<=sizeLine/\
 (ys=[]->Q (.ref a) H)/\(ys≠ []->∀p,H p=none->Q (.ref p) (upd H p (.tup (xs++ys))))
theorem Vals.nil_iff (r:Vals xs us):us=[]↔xs=[]:=by
 cases r with
 |nil=>simp
 |cons _ _=>simp
theorem pE0:OpR X (binaryOp .Add) (rCatT X.K):=by
 intro pins s σ H x y v u Q I rx ry h
 obtain⟨a,b,xs,ys,rfl,rfl,ha,hb,hx,hz,q1,q2⟩:=h
 cases rx
 cases ry
 obtain⟨its,r1,p1,_⟩:=I.tuple ha
 obtain⟨its2,r2,p2,_⟩:=I.tuple hb
 refine HT.cat_tup p1 p2 (λz=>hx (r1.nil_iff.mp z)) (λz=>⟨.ref a,H,I,rfl,q1 (r2.nil_iff.mp z)⟩) (λz=> ?_) (by rw [<- r1.length,<- r2.length]; exact hz)
 refine⟨.ref s.heap.objs.size,_,I.laid (t':=s.toks) (o:=.tup (xs++ys)) (λb ob q=>Aa7 _ q) (Ab1 _) ?_,rfl,q2 (λw=>z (r2.nil_iff.mpr w)) _ (I.hok.fresh (Ab1 _))⟩
 exact⟨by rw [Aa5]; exact hz,_,r1.append r2,IsTup.new _ _,_,Ab7 _ rfl,rfl⟩
end
def ixN (n:Nat)(i:Int):Option Nat:=if 0<=i then(if i<n then some i.toNat else none) else if -(n:Int)<=i then some (i+n).toNat else none
def atI {α:Type}(xs:List α)(i:Int):Option α:=(ixN xs.length i).bind λj=>xs[j]?
theorem qz0 (h:ixN n i=some j):seqIndex? i n=some j/\j<n/\ -(n:Int)<=i/\i<n:=by
 unfold ixN at h
 by_cases h0:0<=i
 ·rw [if_pos h0] at h
  by_cases h1:i<n
  ·rw [if_pos h1] at h
   have e:i.toNat=j:=Option.some.inj h
   exact⟨by rw [seqIndex_of h0 h1,e],by omega,by omega,h1⟩
  ·rw [if_neg h1] at h; cases h
 ·rw [if_neg h0] at h
  by_cases h1: -(n:Int)<=i
  ·rw [if_pos h1] at h
   have e:(i+n).toNat=j:=Option.some.inj h
   exact⟨by rw [seqIndex_neg (by omega) h1,e],by omega,h1,by omega⟩
  ·rw [if_neg h1] at h; cases h
theorem ii0 {α:Type}{xs:List α}{i:Int}{v:α}(h:atI xs i=some v):∃j,seqIndex? i xs.length=some j/\xs[j]?=some v/\j<xs.length/\ -(xs.length:Int)<=i/\i<xs.length:=by
 unfold atI at h
 cases e:ixN xs.length i with
 |none=>rw [e] at h; cases h
 |some j=>
  rw [e] at h
  obtain⟨h1,h2,h3,h4⟩:=qz0 e
  exact⟨j,h1,h,h2,h3,h4⟩
theorem atI_nat {α:Type}{xs:List α}{j:Nat}{v:α}(h:xs[j]?=some v):atI xs (j:Int)=some v:=by
 have hj:j<xs.length:=(Aa9.mp h).1
 have e:ixN xs.length (j:Int)=some j:=by
  unfold ixN
  rw [if_pos (by omega),if_pos (by omega)]; simp
 unfold atI; rw [e]; exact h
def lb0 (b:Expr):Prop:=∀o i,subscripted b false o i=operate [o,i] (getItem o i)
def IxR (X:Cx)(r:R2):Prop:=
 ∀(value slice:Expr) (pins:List (Addr × Obj)) (s:Shared) (σ:St) (H:Hp) (x y:V) (v u:Value) (Q:VK),Inv X pins σ H s->RelV x v->RelV y u->r x y H Q->
  subscripted slice false v u=operate [v,u] (getItem v u)->wpAny (model X.prog X.w) X.A (subscriptTail value slice v u) (EP X pins σ Q) X.xe s
def MtR (X:Cx)(id:String)(r:V->List V->Hp->VK->Prop):Prop:=
 ∀(pins:List (Addr × Obj)) (s:Shared) (σ:St) (H:Hp) (x:V) (xs:List V) (v:Value) (us:List Value) (Q:VK),Inv X pins σ H s->RelV x v->Vals xs us->r x xs H Q->
  wpAny (model X.prog X.w) X.A (call (.builtin id) (v::us)) (EP X pins σ Q) X.xe s
section
variable {X:Cx}{a b:Expr}{ta tb:TE}{pos:Pos}
theorem IxR.or {r r':R2}(h:IxR X r)(h':IxR X r'):IxR X (λx y H Q=>r x y H Q\/ r' x y H Q):=by
 intro value slice pins s σ H x y v u Q I rx ry q hs
 rcases q with q|q
 ·exact h value slice pins s σ H x y v u Q I rx ry q hs
 ·exact h' value slice pins s σ H x y v u Q I rx ry q hs
theorem gy0 (hr:IxR X r)(ha:PE X a ta)(hb:PE X b tb)(hs:lb0 b):PE X (.Subscript a b pos) (tOp r ta tb):=by
 intro pins s σ H Q I h
 exact Subscript_ (binT ha hb I h λv u s2 x y H2 I2 rx ry q=>hr a b pins s2 σ H2 x y v u Q I2 rx ry q (hs _ _))
def rIxL (K:Aa3):R2:=λx y H Q=>∃p xs i v,x=.ref p/\y=.int i/\SqL K H p xs/\atI xs i=some v/\Q v H
def rIxT (K:Aa3):R2:=λx y H Q=>∃p xs i v,x=.ref p/\y=.int i/\SqT K H p xs/\atI xs i=some v/\Q v H
def rIxS:R2:=λx y H Q=>∃z i c,x=.str z/\y=.int i/\z.length<=sizeLine/\atI z.cps.toList i=some c/\Q (.str ⟨#[c]⟩) H
theorem ix_list:IxR X (rIxL X.K):=by
 intro value slice pins s σ H x y v u Q I rx ry h hs
 obtain⟨p,xs,i,z,rfl,rfl,hq,he,q⟩:=h
 cases rx
 obtain⟨t,rfl⟩:=ry
 obtain⟨its,r,pl,hz⟩:=I.list hq
 obtain⟨j,h1,h2,h3,h4,h5⟩:=ii0 he
 obtain⟨w,ew,rw'⟩:=r.get h2
 have hl:=r.length
 have hn:=fA0
 have fin:EP X pins σ Q w s:=⟨z,H,I,rw',q⟩
 by_cases h0:0<=i
 ·have hj:i.toNat=j:=by
   rw [seqIndex_of h0 h5] at h1
   exact Option.some.inj h1
  exact item_listR pl.isList h0 (by omega) (by rw [hj]; simpa using ew) fin hs
 ·have hj:(i+(its.toArray.size:Int)).toNat=j:=by
   rw [seqIndex_neg (by omega) h4] at h1
   rw [Ab8,<- hl]
   exact Option.some.inj h1
  exact subscriptTail_builtinR (x:=w) pl.isList.typeIs slot_list_getitem.lookup
   (wpAny_getItem_list_neg (Q:=λr s'=>r=w/\EP X pins σ Q r s') pl.isList (by omega) (by rw [Ab8]<;>omega) (by omega) (by rw [hj]; simpa using ew) ⟨rfl,fin⟩) hs
theorem ix_tup:IxR X (rIxT X.K):=by
 intro value slice pins s σ H x y v u Q I rx ry h hs
 obtain⟨p,xs,i,z,rfl,rfl,hq,he,q⟩:=h
 cases rx
 obtain⟨t,rfl⟩:=ry
 obtain⟨its,r,pl,hz⟩:=I.tuple hq
 obtain⟨j,h1,h2,h3,h4,h5⟩:=ii0 he
 obtain⟨w,ew,rw'⟩:=r.get h2
 have hl:=r.length
 have hn:=fA0
 have fin:EP X pins σ Q w s:=⟨z,H,I,rw',q⟩
 exact subscriptTail_builtinR (x:=w) pl.typeIs slot_tuple_getitem.lookup
  (getItem_tuple (j:=j) (Q:=λr s'=>r=w/\EP X pins σ Q r s') pl (by omega) (by omega) (by rw [Ab8,<- hl]; exact h1) (by simpa using ew) ⟨rfl,fin⟩) hs
theorem rK0:IxR X rIxS:=by
 intro value slice pins s σ H x y v u Q I rx ry h hs
 obtain⟨z,i,c,rfl,rfl,hz,he,q⟩:=h
 obtain⟨t,rfl⟩:=rx
 obtain⟨t',rfl⟩:=ry
 obtain⟨j,h1,h2,h3,h4,h5⟩:=ii0 he
 have hl:z.cps.toList.length=z.length:=by simp [Str.length]
 rw [hl] at h1 h4 h5
 have hn:=fA0
 exact tail_any (typeIs_str s z t) slot_str_getitem.lookup (getItem_str (c:=c) (by
  have e1:decide (i< -(2^63:Int))=false:=Ad3 (by omega)
  have e2:decide (i≥2^63)=false:=Ad3 (by omega)
  rw [e1,e2,Bool.or_false]) (by rw [h1]; simpa using h2) ⟨.str ⟨#[c]⟩,H,I.tok _,⟨_,rfl⟩,q⟩) hs
def rIx (K:Aa3):R2:=λx y H Q=>rIxL K x y H Q\/ rIxT K x y H Q\/ rIxS x y H Q
theorem rk0:IxR X (rIx X.K):=ix_list.or (ix_tup.or rK0)
theorem hL0 (lo hi:Option Int)(n:Nat):(sliceBounds lo hi none n).1=((HT.sIx n 0 lo:Nat):Int)/\(sliceBounds lo hi none n).2.1=((HT.sIx n n hi:Nat):Int)/\(sliceBounds lo hi none n).2.2=1:=by
 refine⟨?_,?_,rfl⟩
 ·cases lo with
  |none=>simp [sliceBounds,HT.sIx]
  |some i=>
   simp only [sliceBounds,HT.sIx,Option.getD_none,show (1:Int)>0 by decide,Al1]
   by_cases h:i<0
   ·simp only [h,Al1]<;>omega
   ·simp only [h,Ah2]<;>omega
 ·cases hi with
  |none=>simp [sliceBounds,HT.sIx]
  |some i=>
   simp only [sliceBounds,HT.sIx,Option.getD_none,show (1:Int)>0 by decide,Al1]
   by_cases h:i<0
   ·simp only [h,Al1]<;>omega
   ·simp only [h,Ah2]<;>omega
theorem gd0 (its:List Value)(lo hi:Option Int):slicePick its.toArray lo hi none=((its.drop (HT.sIx its.length 0 lo)).take (HT.sIx its.length its.length hi - HT.sIx its.length 0 lo)).toArray:=by
 obtain⟨h1,h2,h3⟩:=hL0 lo hi its.toArray.size
 unfold slicePick
 rw [h1,h2,h3]
 simp only [sliceRange_one,pick_run,Ab8]<;>rfl
def rSlL (K:Aa3):V->Option Int->Option Int->Hp->VK->Prop:=λx lo hi H Q=>∃a xs,x=.ref a/\SqL K H a xs/\∀p,H p=none->Q (.ref p) (upd H p (.lst (cutV xs lo hi)))
theorem ih0:SlR X (rSlL X.K):=by
 intro pins s σ H x v vl vu lo hi sl Q I rx hs pl pu h
 obtain⟨a,xs,rfl,hx,q⟩:=h
 cases rx
 obtain⟨its,r,ht,hz⟩:=I.list hx
 have hlen:=r.length
 refine⟨"list",_,slot_list_getitem.lookup,ht.isList.typeIs,?_⟩
 refine wpAny_getItem_list_slice ht.isList hs pl pu .none (by simp) ?_ (by rw [Ab8]<;>omega)
 rw [gd0,<- hlen]
 refine⟨.ref s.heap.objs.size,_,I.laid (t':=s.toks) (o:=.lst (cutV xs lo hi)) (λb ob q=>Aa7 _ q) (Ab1 _) ?_,rfl,q _ (I.hok.fresh (Ab1 _))⟩
 exact⟨Ac6 (eW0 xs lo hi) hz,_,0,(r.drop (HT.sIx xs.length 0 lo)).take (HT.sIx xs.length xs.length hi - HT.sIx xs.length 0 lo),Ab7 _ rfl⟩
def ch0:V->Bool
 | .non=>true
 | .bl _=>true
 | .int _=>true
 | .str _=>true
 |_=>false
def eqV:V->V->Bool
 | .non,.non=>true
 | .bl a,.bl b=>a==b
 | .bl a,.int b=>(if a then 1 else 0)==b
 | .int a,.bl b=>a==(if b then 1 else 0)
 | .int a,.int b=>a==b
 | .str a,.str b=>a==b
 |_,_=>false
theorem pc0 (ry:RelV y u)(rx:RelV x v)(fy:ch0 y=true)(fx:ch0 x=true):SeqAt.EqAt A s u v (eqV y x):=by
 cases y with
 |non=>
  cases ry
  cases x with
  |non=>cases rx; exact SeqAt.EqAt.same _
  |bl b=>cases rx; exact SeqAt.EqAt.none_bool b
  |int b=>obtain⟨t,rfl⟩:=rx; exact SeqAt.EqAt.none_int b t
  |str b=>obtain⟨t,rfl⟩:=rx; exact SeqAt.EqAt.none_str b t
  |_=>exact absurd (show false=true from fx) Ab4
 |bl a=>
  cases ry
  cases x with
  |non=>cases rx; exact SeqAt.EqAt.bool_none a
  |bl b=>cases rx; exact SeqAt.EqAt.bool_bool a b
  |int b=>obtain⟨t,rfl⟩:=rx; exact SeqAt.EqAt.bool_int a b t
  |str b=>obtain⟨t,rfl⟩:=rx; exact SeqAt.EqAt.bool_str a b t
  |_=>exact absurd (show false=true from fx) Ab4
 |int a=>
  obtain⟨t',rfl⟩:=ry
  cases x with
  |non=>cases rx; exact SeqAt.EqAt.int_none a t'
  |bl b=>cases rx; exact SeqAt.EqAt.int_bool a t' b
  |int b=>obtain⟨t,rfl⟩:=rx; exact SeqAt.EqAt.int_int a t' b t
  |str b=>obtain⟨t,rfl⟩:=rx; exact SeqAt.EqAt.int_str a t' b t
  |_=>exact absurd (show false=true from fx) Ab4
 |str a=>
  obtain⟨t',rfl⟩:=ry
  cases x with
  |non=>cases rx; exact SeqAt.EqAt.str_none a t'
  |bl b=>cases rx; exact SeqAt.EqAt.str_bool a t' b
  |int b=>obtain⟨t,rfl⟩:=rx; exact SeqAt.EqAt.str_int a t' b t
  |str b=>obtain⟨t,rfl⟩:=rx; exact SeqAt.EqAt.str_str a t' b t
  |_=>exact absurd (show false=true from fx) Ab4
 |_=>exact absurd (show false=true from fy) Ab4
def eqU (x:V)(u:Value):Bool:=match u with
 | .none=>eqV .non x
 | .bool b=>eqV (.bl b) x
 | .int i _=>eqV (.int i) x
 | .str z _=>eqV (.str z) x
 |_=>false
theorem iz0 (r:RelV y u)(f:ch0 y=true):eqU x u=eqV y x:=by
 cases y with
 |non=>cases r; rfl
 |bl b=>cases r; rfl
 |int i=>obtain⟨t,rfl⟩:=r; rfl
 |str z=>obtain⟨t,rfl⟩:=r; rfl
 |_=>exact absurd (show false=true from f) Ab4
theorem fe0:∀{xs:List V} {us:List Value},Vals xs us->xs.all ch0=true->us.any (eqU x)=xs.any λy=>eqV y x
 |_,_,.nil,_=>rfl
 |y::xs,u::us,.cons r t,f=>by
  rw [Aj3,Ac8] at f
  rw [Ai0,Ai0,iz0 r f.1,fe0 t f.2]
theorem cs0 (rx:RelV x v)(fx:ch0 x=true):∀{xs:List V} {us:List Value},Vals xs us->xs.all ch0=true->∀u∈us,SeqAt.EqAt A s u v (eqU x u)
 |_,_,.nil,_=>λu hu=>by cases hu
 |y::xs,u::us,.cons r t,f=>λu' hu=>by
  rw [Aj3,Ac8] at f
  rcases Ab2.mp hu with rfl|hu
  ·rw [iz0 r f.1]; exact pc0 r rx f.1 fx
  ·exact cs0 rx fx t f.2 u' hu
def inV (x:V)(xs:List V):Bool:=xs.any λy=>eqV y x
def rIn (K:Aa3)(neg:Bool):R2:=λx y H Q=>∃p xs,y=.ref p/\(SqL K H p xs\/ SqT K H p xs)/\ch0 x=true/\xs.all ch0=true/\Q (.bl (if neg then !inV x xs else inV x xs)) H
theorem mX0:OpR X (compareOp .In) (rIn X.K false):=by
 intro pins s σ H x y v u Q I rx ry h
 obtain⟨p,xs,rfl,hq,fx,fs,q⟩:=h
 cases ry
 rcases hq with hq|hq
 ·obtain⟨its,r,pl,hz⟩:=I.list hq
  refine SeqAt.in_listAt (eqU x) pl.isList (λw hw=>cs0 rx fx r fs w (by simpa using hw)) ⟨.bl _,H,I,rfl,?_⟩
  rw [show its.toArray.any (eqU x)=its.any (eqU x) by simp,fe0 r fs]
  exact q
 ·obtain⟨its,r,pl,hz⟩:=I.tuple hq
  refine SeqAt.in_tupleAt (eqU x) pl (λw hw=>cs0 rx fx r fs w (by simpa using hw)) ⟨.bl _,H,I,rfl,?_⟩
  rw [show its.toArray.any (eqU x)=its.any (eqU x) by simp,fe0 r fs]
  exact q
theorem em0:OpR X (compareOp .NotIn) (rIn X.K true):=by
 intro pins s σ H x y v u Q I rx ry h
 obtain⟨p,xs,rfl,hq,fx,fs,q⟩:=h
 cases ry
 rcases hq with hq|hq
 ·obtain⟨its,r,pl,hz⟩:=I.list hq
  refine SeqAt.notIn_listAt (eqU x) pl.isList (λw hw=>cs0 rx fx r fs w (by simpa using hw)) ⟨.bl _,H,I,rfl,?_⟩
  rw [show its.toArray.any (eqU x)=its.any (eqU x) by simp,fe0 r fs]
  exact q
 ·obtain⟨its,r,pl,hz⟩:=I.tuple hq
  refine SeqAt.notIn_tupleAt (eqU x) pl (λw hw=>cs0 rx fx r fs w (by simpa using hw)) ⟨.bl _,H,I,rfl,?_⟩
  rw [show its.toArray.any (eqU x)=its.any (eqU x) by simp,fe0 r fs]
  exact q
theorem bX0:ds0 X (.builtin "len") (λxs H Q=>∃p ys,xs=[.ref p]/\(SqL X.K H p ys\/ SqT X.K H p ys)/\Q (.int ys.length) H):=by
 intro pins s σ H xs us Q I r h
 obtain⟨p,ys,rfl,hq,q⟩:=h
 obtain⟨u,rfl,rx⟩:=gp0 r
 cases rx
 have hn:=fA0
 rcases hq with hq|hq
 ·obtain⟨its,r',pl,hz⟩:=I.list hq
  have hlen:=r'.length
  exact Calls.call_len_list pl.isList (by simp only [Ab8]<;>omega) ⟨.int ys.length,H,I.tok _,⟨s.toks+1,by rw [Ab8,hlen]⟩,q⟩
 ·obtain⟨its,r',pl,hz⟩:=I.tuple hq
  have hlen:=r'.length
  exact len_tuple pl (by simp only [Ab8]<;>omega) ⟨.int ys.length,H,I.tok _,⟨s.toks+1,by rw [Ab8,hlen]⟩,q⟩
theorem gH0:ds0 X (.type "list") (λxs H Q=>∃p ys,xs=[.ref p]/\(SqL X.K H p ys\/ SqT X.K H p ys)/\∀l,H l=none->Q (.ref l) (upd H l (.lst ys))):=by
 intro pins s σ H xs us Q I r h
 obtain⟨p,ys,rfl,hq,q⟩:=h
 obtain⟨u,rfl,rx⟩:=gp0 r
 cases rx
 have fin:∀(its:List Value),Vals ys its->ys.length<=sizeLine->∀(h':Heap) (c':Nat),(∀b o',s.heap.get? b=some o'->h'.get? b=some o')->
   h'.get? s.heap.objs.size=some {cls:=.type "list",dict:=none,data:=.seq its.toArray c',slots:= #[]}->EP X pins σ Q (.ref s.heap.objs.size) {s with heap:=h'}:=λits r' hz h' c' kp e=>
  ⟨.ref s.heap.objs.size,_,I.laid (t':=s.toks) kp (Ab1 _) (show ObjOk X.prog X.w _ h' _ (.lst ys) from⟨hz,its,c',r',e⟩),rfl,q _ (I.hok.fresh (Ab1 _))⟩
 rcases hq with hq|hq
 ·obtain⟨its,r',pl,hz⟩:=I.list hq
  have hlen:=r'.length
  obtain⟨o,ho,hc,n,hd⟩:=pl.isList
  exact call_list_seq p (.inl rfl) ho hc hd (λh' c' kp e=>fin its r' hz h' c' kp e) (by simp only [Ab8]<;>omega)
 ·obtain⟨its,r',pl,hz⟩:=I.tuple hq
  have hlen:=r'.length
  obtain⟨o,ho,hc,n,hd⟩:=pl
  exact call_list_seq p (.inr rfl) ho hc hd (λh' c' kp e=>fin its r' hz h' c' kp e) (by simp only [Ab8]<;>omega)
theorem gg0:ds0 X (.type "tuple") (λxs H Q=>∃p ys,xs=[.ref p]/\((SqL X.K H p ys/\∀l,H l=none->Q (.ref l) (upd H l (.tup ys)))\/ (SqT X.K H p ys/\Q (.ref p) H))):=by
 intro pins s σ H xs us Q I r h
 obtain⟨p,ys,rfl,h⟩:=h
 obtain⟨u,rfl,rx⟩:=gp0 r
 cases rx
 rcases h with⟨hq,q⟩|⟨hq,q⟩
 ·obtain⟨its,r',pl,hz⟩:=I.list hq
  have hlen:=r'.length
  refine call_tuple_list pl.isList (λh' kp=> ?_) (by simp only [Ab8]<;>omega)
  have I1:Inv X pins σ H {s with heap:=h'}:=I.kept (t':=s.toks) kp
  have I2:Inv X pins σ (upd H h'.objs.size (.tup ys)) {s with heap:=h'.push {cls:=.type "tuple",data:=.seq its.toArray}}:=
   I1.laid (t':=s.toks) (λb o e=>Aa7 _ e) (Ab1 _) (show ObjOk X.prog X.w _ _ _ (.tup ys) from⟨hz,its,r',IsTup.new _ _,_,Ab7 _ rfl,rfl⟩)
  exact⟨.ref h'.objs.size,_,I2,rfl,q _ (I1.hok.fresh (Ab1 _))⟩
 ·obtain⟨its,r',pl,hz⟩:=I.tuple hq
  exact call_tuple_same pl ⟨.ref p,H,I,rfl,q⟩
def tyV (K:Aa3)(T:String)(x:V)(H:Hp):Prop:=match x with
 | .str _=>T= "str"
 | .int _=>T= "int"
 | .ref p=>(T= "list" /\∃xs,SqL K H p xs)\/ (T= "tuple" /\∃o,K.lookup p=some o/\o.cls=.type "tuple" /\o.dict=none)\/
   (T= "dict" /\((∃kvs,H p=some (.dK kvs))\/ ∃kvs,H p=some (.dT kvs)))\/ (T= "set" /\∃S n,H p=some (.set S n))
 |_=>False
theorem oS0 (I:Inv X pins σ H s)(r:RelV x v)(ty:tyV X.K T x H):
  s.TypeIs v T/\∀a,v=.ref a->∃ob,s.heap.get? a=some ob/\ob.dict=none:=by
 cases x with
 |str z=>
  obtain⟨t,rfl⟩:=r
  cases (show T= "str" from ty)
  exact⟨typeIs_str s z t,λ_ e=>nomatch e⟩
 |int i=>
  obtain⟨t,rfl⟩:=r
  cases (show T= "int" from ty)
  exact⟨typeIs_int s i t,λ_ e=>nomatch e⟩
 |ref p=>
  cases r
  rcases ty with⟨rfl,xs,hq⟩|⟨rfl,o,hk,hc,hd⟩|⟨rfl,hk⟩|⟨rfl,S,n,hk⟩
  ·obtain⟨its,_,pl,_⟩:=I.list hq
   refine⟨pl.isList.typeIs,λa e=> ?_⟩
   cases e
   obtain⟨o,n,e,c,hd,_⟩:=pl
   exact⟨o,e,hd⟩
  ·refine⟨⟨o,I.kIn p o hk,hc⟩,λa e=> ?_⟩
   cases e
   exact⟨o,I.kIn _ o hk,hd⟩
  ·have z:∃o,s.heap.get? p=some o/\o.ExactDict:=by
    rcases hk with⟨kvs,hk⟩|⟨kvs,hk⟩
    ·obtain⟨_,_,_,_,o,_,_,e,ex,_⟩:=I.hok p _ hk
     exact⟨o,e,ex⟩
    ·obtain⟨_,_,_,_,o,_,_,e,ex,_⟩:=I.hok p _ hk
     exact⟨o,e,ex⟩
   obtain⟨o,e,ex⟩:=z
   refine⟨⟨o,e,ex.1⟩,λa e2=> ?_⟩
   cases e2
   exact⟨o,e,ex.2.1⟩
  ·obtain⟨o,_,_,_,e,ex,_⟩:=I.hok p _ hk
   refine⟨⟨o,e,ex.1⟩,λa e2=> ?_⟩
   cases e2
   exact⟨o,e,ex.2.1⟩
 |_=>exact False.elim ty
def tBM0 (K:Aa3)(T:String)(r:V->List V->Hp->VK->Prop)(to:TE):TE:=λσ H Q=>to σ H λx H1=>tyV K T x H1/\r x [] H1 Q
def tBM (K:Aa3)(T:String)(r:V->List V->Hp->VK->Prop)(to:TE)(t:TA):TE:=λσ H Q=>to σ H λx H1=>tyV K T x H1/\t σ H1 λxs H2=>r x xs H2 Q
variable {o e:Expr}{es:List Expr}{to:TE}{t:TA}{name:Str}{apos cpos:Pos}{T id:String}{r:V->List V->Hp->VK->Prop}
theorem lX0 (pa:PlainAttrs T)(slot:Slot T name id)(hty:typeOf (.builtin id)=pure (.type "method_descriptor")) (hm:MtR X id r) (ho:PE X o to)
  (hbase:attributeBase o name X.env (eval o X.env)=eval o X.env:=by rfl) (hline:(apos.endLine==cpos.line)=true:=by rfl):PE X (.Call (.Attribute o name apos) [] [] cpos) (tBM0 X.K T r to):=by
 intro pins s σ H Q I h
 refine wpAny_Call_method0_late hbase hline (thn (ho pins s σ H _ I h) λv s1 ⟨x,H1,I1,r1,ty,q1⟩=> ?_)
 obtain⟨h1,h2⟩:=oS0 I1 r1 ty
 exact⟨T,id,pa,slot,hty,h1,h2,Am7 rfl (PySem.evalArgs_none (hm pins s1 σ H1 x [] v [] Q I1 r1 .nil q1))⟩
theorem fw0 (pa:PlainAttrs T)(slot:Slot T name id)(hty:typeOf (.builtin id)=pure (.type "method_descriptor")) (hm:MtR X id r) (ho:PE X o to) (ha:PA X (e::es) t)
  (hbase:attributeBase o name X.env (eval o X.env)=eval o X.env:=by rfl)
  (hfew:((backTo cpos (starEach (e::es) X.env)).all (λx=> !x.1) && (backToKw cpos (keywordEach [] X.env)).all (λx=>x.1.isSome)
   && decide ((e::es).length+([]:List Keyword).length+(if([]:List Keyword).isEmpty then 0 else 1)<30))=true:=by rfl)
  (hline:(apos.endLine==cpos.line)=true:=by rfl) (hs:starEach (e::es) X.env=(false,eval e X.env)::starEach es X.env:=by rfl) (hplain:(backTo cpos (starEach es X.env)).any (·.1)=false:=by rfl):
  PE X (.Call (.Attribute o name apos) (e::es) [] cpos) (tBM X.K T r to t):=by
 intro pins s σ H Q I h
 refine wpAny_Call_method_late hbase hfew hline rfl (thn (ho pins s σ H _ I h) λv s1 ⟨x,H1,I1,r1,ty,q1⟩=> ?_)
 obtain⟨h1,h2⟩:=oS0 I1 r1 ty
 refine⟨T,id,pa,slot,hty,h1,h2,?_⟩
 have hA:=ha cpos pins s1 σ H1 _ I1 q1
 rw [hs] at hA ⊢
 refine Am7 (by show (false||(backTo cpos (starEach es X.env)).any (·.1))=false; rw [hplain]<;>rfl) (Calls.evalArgs_plain ?_)
 exact thn hA λus s2 ⟨vs,H2,I2,r2,q2⟩=>hm pins s2 σ H2 x vs v us Q I2 r1 r2 q2
end
def MtM (X:Cx)(id:String)(r:V->List V->Hp->VK->Prop):Prop:=
 ∀(pins:List (Addr × Obj)) (s:Shared) (σ:St) (H:Hp) (x:V) (xs:List V) (v:Value) (us:List Value) (Q:VK),Inv X pins σ H s->RelV x v->Vals xs us->r x xs H Q->
  wpAny (model X.prog X.w) X.A (call (.builtin id) (v::us)) (EP X pins σ Q) X.xe s
theorem Vals.one:∀{x:V} {us:List Value},Vals [x] us->∃u,us=[u]/\RelV x u
 |_,_,.cons r .nil=>⟨_,rfl,r⟩
theorem Vals.zero:∀{us:List Value},Vals [] us->us=[]
 |_,.nil=>rfl
theorem Vals.dropLast (h:Vals xs us):Vals xs.dropLast us.dropLast:=by
 induction h with
 |nil=>exact .nil
 |cons r t ih=>
  cases t with
  |nil=>exact .nil
  |cons q t'=>exact .cons r ih
theorem kw0 {α:Type}(l:List α):l.eraseIdx (l.length - 1)=l.dropLast:=by
 induction l with
 |nil=>rfl
 |cons a r ih=>
  cases r with
  |nil=>rfl
  |cons b r=>
   have e:(a::b::r).length - 1=((b::r).length - 1)+1:=by
    have h1:(a::b::r).length=r.length+2:=rfl
    have h2:(b::r).length=r.length+1:=rfl
    omega
   rw [e,List.eraseIdx_cons_succ,ih]
   all_goals rfl
section
variable {X:Cx}{pins:List (Addr × Obj)}{σ:St}{H:Hp}{s:Shared}{l b:Addr}{xs ys zs:List V}
theorem Inv.lset {its its':List Value}{f:Array Value->Array Value}(I:Inv X pins σ H s)(hH:H l=some (.lst xs))
  (e:s.heap.get? l=some {cls:=.type "list",data:=.seq its.toArray n}) (hf:f its.toArray=its'.toArray) (hv:Vals ys its') (hz:ys.length<=sizeLine):
  Inv X pins σ (upd H l (.lst ys)) {s with heap:=s.heap.update l (Obj.mapSeq f),toks:=t'}:=by
 have q:=PySem.IsL.update e f
 rw [hf] at q
 refine I.write (x:=l) (e:=l) (by rw [hH]; exact trivial) (.inl rfl) (λb' u hb hu=>(Aj6 s.heap (Obj.mapSeq f) (Ne.symm hb)).trans hu) ⟨_,q⟩ ?_
 exact⟨hz,its',_,hv,q⟩
theorem Inv.lnew (I:Inv X pins σ H s)(hv:Vals ys its)(hz:ys.length<=sizeLine):
  Inv X pins σ (upd H s.heap.objs.size (.lst ys)) {s with heap:=s.heap.push {cls:=.type "list",data:=.seq its.toArray},toks:=t'}:=
 I.laid (λ_ _ q=>Aa7 _ q) (Ab1 _) ⟨hz,its,0,hv,Ab7 _ rfl⟩
theorem Inv.fresh (I:Inv X pins σ H s):H s.heap.objs.size=none:=I.hok.fresh (Ab1 _)
theorem Inv.lstM (I:Inv X pins σ H s)(hH:H l=some (.lst xs)):xs.length<=sizeLine/\∃(its:List Value) (n:Nat),Vals xs its/\xs.length=its.length/\s.heap.get? l=some {cls:=.type "list",data:=.seq its.toArray n}:=by
 obtain⟨z,its,n,r,e⟩:=I.hok l _ hH
 exact⟨z,its,n,r,r.length,e⟩
theorem oc0 (h:n<=sizeLine):Builtin.List.listTooLong n=false:=by
 unfold Builtin.List.listTooLong
 exact Ad3 (by omega)
end
section
variable {X:Cx}
def qQ0:V->List V->Hp->VK->Prop:=λx vs H Q=>∃l xs y,x=.ref l/\vs=[y]/\H l=some (.lst xs)/\xs.length<sizeLine/\Q .non (upd H l (.lst (xs++ [y])))
theorem cl0:MtM X "list.append" qQ0:=by
 intro pins s σ H x vs v us Q I rx rv h
 obtain⟨l,xs,y,rfl,rfl,hH,hz,q⟩:=h
 cases rx
 obtain⟨u,rfl,ru⟩:=rv.one
 obtain⟨z,its,n,r,hl,e⟩:=I.lstM hH
 refine Ar1 F.slot_list_append ⟨_,e,rfl⟩ F.entry_list_append (F.args_list_append_2 _ _) (PySem.list_append l its.toArray n u (by rw [Ab8]; omega)) ⟨e,?_⟩
 refine⟨.non,_,I.lset (its':=its++ [u]) hH e (by simp) (r.append (.cons ru .nil)) ?_,rfl,q⟩
 rw [Aa5,Ab5]
 omega
def pV0:V->List V->Hp->VK->Prop:=λx vs H Q=>∃l b xs zs,x=.ref l/\vs=[.ref b]/\H l=some (.lst xs)/\H b=some (.lst zs)/\xs.length+zs.length<=sizeLine/\Q .non (upd H l (.lst (xs++zs)))
theorem hE0:MtM X "list.extend" pV0:=by
 intro pins s σ H x vs v us Q I rx rv h
 obtain⟨l,b,xs,zs,rfl,rfl,hH,hB,hz,q⟩:=h
 cases rx
 obtain⟨u,rfl,ru⟩:=rv.one
 cases ru
 obtain⟨z,its,n,r,hl,e⟩:=I.lstM hH
 obtain⟨z2,its2,n2,r2,hl2,e2⟩:=I.lstM hB
 have hsz:its.toArray.size+its2.toArray.size<=sizeLine:=by rw [Ab8,Ab8]; omega
 have hlong:¬(!its.toArray.isEmpty && Builtin.List.listTooLong (its.toArray.size+its2.toArray.size))=true:=by
  rw [oc0 hsz,Aj4]
  exact Ab4
 refine Ar1 F.slot_list_extend ⟨_,e,rfl⟩ F.entry_list_extend (F.args_list_extend_2 _ _)
  (AutoSeq1.list_extend_list_list_0 l its.toArray n b its2.toArray n2 hlong (by rw [Ab8]; omega) (by omega)) ⟨e,e2,?_⟩
 refine⟨.non,_,I.lset (its':=its++its2) hH e (by simp) (r.append r2) ?_,rfl,q⟩
 rw [Aa5]
 omega
def rPop:V->List V->Hp->VK->Prop:=λx vs H Q=>∃l xs y,x=.ref l/\vs=[]/\H l=some (.lst xs)/\xs[xs.length - 1]?=some y/\Q y (upd H l (.lst xs.dropLast))
theorem ll0:MtM X "list.pop" rPop:=by
 intro pins s σ H x vs v us Q I rx rv h
 obtain⟨l,xs,y,rfl,rfl,hH,hy,q⟩:=h
 cases rx
 have hus:=rv.zero
 subst hus
 obtain⟨z,its,n,r,hl,e⟩:=I.lstM hH
 obtain⟨u,hu,ru⟩:=r.get hy
 have hy':its.toArray[its.toArray.size - 1]?=some u:=by
  show its.toArray[its.length - 1]?=some u
  rw [<- Array.getElem?_toList,<- hl]
  exact hu
 refine Ar1 F.slot_list_pop ⟨_,e,rfl⟩ F.entry_list_pop (F.args_list_pop_1 _) (MeetsSeq.list_pop_last l its.toArray n u hy' (by rw [Ab8]; omega)) ⟨e,?_⟩
 refine⟨y,_,I.lset (its':=its.dropLast) hH e ?_ r.dropLast ?_,ru,q⟩
 ·show its.toArray.eraseIdxIfInBounds (its.toArray.size - 1)=its.dropLast.toArray
  rw [Ab8,List.eraseIdxIfInBounds_toArray,kw0]
 ·rw [List.length_dropLast]
  omega
def rCat:R2:=λx y H Q=>∃l b xs zs,x=.ref l/\y=.ref b/\H l=some (.lst xs)/\H b=some (.lst zs)/\xs.length+zs.length<=sizeLine/\∀p,H p=none->Q (.ref p) (upd H p (.lst (xs++zs)))
theorem rF0:OpR X (binaryOp .Add) rCat:=by
 intro pins s σ H x y v u Q I rx ry h
 obtain⟨l,b,xs,zs,rfl,rfl,hH,hB,hz,q⟩:=h
 cases rx
 cases ry
 obtain⟨z,its,n,r,hl,e⟩:=I.lstM hH
 obtain⟨z2,its2,n2,r2,hl2,e2⟩:=I.lstM hB
 refine PySem.P.add_list e e2 ?_ (by rw [Ab8,Ab8]; omega)
 have ea:its.toArray++its2.toArray=(its++its2).toArray:=by simp
 rw [ea]
 exact⟨.ref _,_,I.lnew (t':=s.toks) (r.append r2) (by rw [Aa5]; omega),rfl,q _ I.fresh⟩
end
section
variable {prog:Program}{w:World}{A:Around}{E:Value->Shared->Prop}{s:Shared}
end
section
variable {X:Cx}
end
section
variable {κ:Type} [DecidableEq κ]
def valV (kvs:List (κ × V))(k:κ):Option V:=(kvs.find? λkv=>decide (kv.1=k)).map (·.2)
def putK (kvs:List (κ × V))(k:κ)(v:V):List (κ × V):=
 if(kvs.any λkv=>decide (kv.1=k))=true then kvs.map (λkv=>if kv.1=k then(kv.1,v) else kv) else kvs++ [(k,v)]
theorem bg0 {p:κ × V}(e:p.1=k):valV (p::r) k=some p.2:=by simp [valV,Am4,e]
theorem bc0 {p:κ × V}(e:¬p.1=k):valV (p::r) k=valV r k:=by simp [valV,Am4,e]
theorem dM0 (k:κ):∀kvs:List (κ × V),(kvs.any λkv=>decide (kv.1=k))=(valV kvs k).isSome
 | []=>rfl
 |p::r=>by
  rw [Ai0]
  by_cases e:p.1=k
  ·simp only [bg0 e,Ad9 e,Bool.true_or,Option.isSome_some]
  ·rw [bc0 e,Ad3 e,Aw0]; exact dM0 k r
theorem jA0 (k j:κ)(y:V):∀kvs:List (κ × V),valV (kvs.map λkv=>if kv.1=k then(kv.1,y) else kv) j=(valV kvs j).map λx=>if j=k then y else x
 | []=>rfl
 |p::r=>by
  have ih:=jA0 k j y r
  rw [Ac2]
  by_cases h:p.1=k
  ·rw [if_pos h]
   by_cases e:p.1=j
   ·rw [bg0 (p:=(p.1,y)) e,bg0 e,Ad5,if_pos (e.symm.trans h)]
   ·rw [bc0 (p:=(p.1,y)) e,bc0 e,ih]
  ·rw [if_neg h]
   by_cases e:p.1=j
   ·rw [bg0 (p:=p) e,bg0 e,Ad5,if_neg (λz=>h (e.trans z))]
   ·rw [bc0 (p:=p) e,bc0 e,ih]
theorem dE0 (k j:κ)(y:V):∀kvs:List (κ × V),valV kvs k=none->valV (kvs++ [(k,y)]) j=if j=k then some y else valV kvs j
 | [],_=>by
  by_cases e:k=j
  ·rw [if_pos e.symm]; exact bg0 (p:=(k,y)) e
  ·rw [if_neg (λz=>e z.symm)]; exact bc0 (p:=(k,y)) e
 |p::r,hn=>by
  rw [An3]
  have hk:¬p.1=k:=λz=>by rw [bg0 z] at hn; cases hn
  rw [bc0 hk] at hn
  have ih:=dE0 k j y r hn
  by_cases e:p.1=j
  ·rw [bg0 e,bg0 e,if_neg (λz=>hk (e.trans z))]
  ·rw [bc0 e,bc0 e,ih]
theorem ot0 (kvs:List (κ × V))(k j:κ)(y:V):valV (putK kvs k y) j=if j=k then some y else valV kvs j:=by
 unfold putK
 by_cases a:(kvs.any λkv=>decide (kv.1=k))=true
 ·rw [if_pos a,jA0]
  rw [dM0] at a
  by_cases e:j=k
  ·obtain⟨x,hx⟩:=Al9.mp a
   rw [if_pos e,e,hx,Ad5,if_pos rfl]
  ·rw [if_neg e]
   cases valV kvs j with
   |none=>rfl
   |some x=>rw [Ad5,if_neg e]
 ·rw [if_neg a]
  refine dE0 k j y kvs ?_
  rw [dM0] at a
  cases q:valV kvs k with
  |none=>rfl
  |some x=>rw [q] at a; exact(a rfl).elim
theorem cD0 (kvs:List (κ × V))(k:κ)(v:V):(putK kvs k v).length<=kvs.length+1:=by
 unfold putK
 split
 ·rw [Aa1]; omega
 ·rw [Aa5,Ac4,Ak1]; omega
theorem dW0 {kvs:List (κ × V)}{k:κ}(v:V)(h:valV kvs k=none):putK kvs k v=kvs++ [(k,v)]:=by
 unfold putK
 rw [dM0,h]
 exact if_neg (by decide)
theorem RelO.isSome_eq (r:RelO o u):o.isSome=u.isSome:=by
 cases o with
 |none=>cases u with
  |none=>rfl
  |some _=>exact(show False from r).elim
 |some _=>cases u with
  |none=>exact(show False from r).elim
  |some _=>rfl
theorem KV.val (r:KV kvs vs)(k:κ):RelO (valV kvs k) (valueAt vs k):=by
 unfold KV at r
 induction r with
 |nil=>exact True.intro
 | @cons p q ps qs h t ih=>
  obtain⟨h1,h2⟩:=h
  by_cases e:p.1=k
  ·have e':q.1=k:=h1.symm.trans e
   have b:valueAt (q::qs) k=some q.2:=by simp [valueAt,Am4,e']
   rw [bg0 e,b]; exact h2
  ·have e':¬q.1=k:=λz=>e (h1.trans z)
   have b:valueAt (q::qs) k=valueAt qs k:=by simp [valueAt,Am4,e']
   rw [bc0 e,b]; exact ih
theorem KV.any {kvs:List (κ × V)}{vs:List (κ × Value)}(r:KV kvs vs)(k:κ):(kvs.any λkv=>decide (kv.1=k))=vs.any λkv=>decide (kv.1=k):=by
 unfold KV at r
 induction r with
 |nil=>rfl
 |cons h t ih=>rw [Ai0,Ai0,ih,h.1]
theorem KV.repl (r:KV kvs vs)(k:κ)(ry:RelV y u):
  KV (kvs.map λkv=>if kv.1=k then(kv.1,y) else kv) (vs.map λkv=>if kv.1=k then(kv.1,u) else kv):=by
 unfold KV at r ⊢
 induction r with
 |nil=>exact .nil
 | @cons p q ps qs h t ih=>
  rw [Ac2,Ac2]
  refine .cons ?_ ih
  obtain⟨h1,h2⟩:=h
  by_cases e:p.1=k
  ·rw [if_pos e,if_pos (h1.symm.trans e)]; exact⟨h1,ry⟩
  ·rw [if_neg e,if_neg (λz=>e (h1.trans z))]; exact⟨h1,h2⟩
theorem KV.put (r:KV kvs vs)(k:κ)(ry:RelV y u):KV (putK kvs k y) (stored vs k u):=by
 unfold putK stored
 rw [r.any k]
 by_cases e:(vs.any λkv=>decide (kv.1=k))=true
 ·rw [if_pos e,if_pos e]; exact r.repl k ry
 ·rw [if_neg e,if_neg e]; exact Paired.snoc r ⟨rfl,ry⟩
theorem KV.length {kvs:List (κ × V)}{vs:List (κ × Value)}(r:KV kvs vs):kvs.length=vs.length:=Paired.length r
end
theorem le0 (r:RelV (kV k) u):(aO0 P w).is k u=true:=by
 cases k with
 |inl i=>obtain⟨t,e⟩:=(show∃t,u=Value.int i t from r); subst e; exact im0 P w i t
 |inr x=>obtain⟨t,e⟩:=(show∃t,u=Value.str x t from r); subst e; exact iq0 P w x t
abbrev KT (H:Hp):List (SK × V)->List (SK × Addr × Value)->Prop:=Paired λp q=>p.1=q.1/\KeyAt H q.2.1 p.1/\RelV p.2 q.2.2
theorem KT.val (r:KT H kvs xs)(k:SK):RelO (valV kvs k) ((atKey xs k).map (·.2)):=by
 induction r with
 |nil=>exact True.intro
 | @cons p q ps qs h t ih=>
  obtain⟨h1,_,h2⟩:=h
  by_cases e:p.1=k
  ·have e':q.1=k:=h1.symm.trans e
   have b:atKey (q::qs) k=some q.2:=by simp [atKey,Am4,e']
   rw [bg0 e,b]; exact h2
  ·have e':¬q.1=k:=λz=>e (h1.trans z)
   have b:atKey (q::qs) k=atKey qs k:=by simp [atKey,Am4,e']
   rw [bc0 e,b]; exact ih
theorem KT.repl (r:KT H kvs xs)(k:SK)(ry:RelV y u):
  KT H (kvs.map λkv=>if kv.1=k then(kv.1,y) else kv) (xs.map (putAt k u)):=by
 induction r with
 |nil=>exact .nil
 | @cons p q ps qs h t ih=>
  rw [Ac2,Ac2]
  refine .cons ?_ ih
  obtain⟨h1,h2,h3⟩:=h
  unfold putAt
  by_cases e:p.1=k
  ·rw [if_pos e,if_pos (h1.symm.trans e)]; exact⟨h1,h2,ry⟩
  ·rw [if_neg e,if_neg (λz=>e (h1.trans z))]; exact⟨h1,h2,h3⟩
theorem KT.put (r:KT H kvs xs)(k:SK)(hb:KeyAt H b k)(ry:RelV y u):
  KT H (putK kvs k y) (storedH xs k b u):=by
 have e:(kvs.any λkv=>decide (kv.1=k))=(atKey xs k).isSome:=by
  rw [dM0,(r.val k).isSome_eq,At0]
 unfold putK storedH
 rw [e]
 by_cases q:(atKey xs k).isSome=true
 ·rw [if_pos q,if_pos q]; exact r.repl k ry
 ·rw [if_neg q,if_neg q]; exact Paired.snoc r ⟨rfl,hb,ry⟩
theorem KT.keeps {H H':Hp}(r:KT H kvs xs)(ht:∀b ys,H b=some (.tup ys)->H' b=some (.tup ys)):KT H' kvs xs:=
 Paired.mapP r λ_ _ z=>⟨z.1,z.2.1.keeps ht,z.2.2⟩
section
variable {P:Program}{w:World}{H:Hp}{h:Heap}{a:Addr}
theorem rd_of (ok:HOk P w H h)(e:Rd H a u):ObjOk P w H h a u:=e.ok ok
theorem kT0 (ok:HOk P w H h)(e:Rd H a (.dK kvs)):kvs.length<=sizeLine/\(a==sysModules)=false/\∃vs,KV kvs vs/\h.DictOf (aO0 P w) a vs:=
 show ObjOk P w H h a (.dK kvs) from rd_of ok e
theorem dk_of (ok:HOk P w H h)(e:H a=some (.dK kvs)):kvs.length<=sizeLine/\(a==sysModules)=false/\∃vs,KV kvs vs/\h.DictOf (aO0 P w) a vs:=kT0 ok (.inl e)
theorem mQ0 (ok:HOk P w H h)(e:H a=some (.tup xs)):∃its:List Value,Vals xs its/\h.IsTuple a its.toArray:=by
 obtain⟨_,its,r,q,_⟩:=(show ObjOk P w H h a (.tup xs) from ok a _ e)
 exact⟨its,r,q⟩
theorem Vals.ints:∀{js:List Int} {us:List Value},Vals (js.map V.int) us->Paired isInt js us
 | [],_,r=>by cases r; exact .nil
 |j::js,_,r=>by
  rw [Ac2] at r
  cases r with
  |cons p t=>exact .cons p (Vals.ints t)
theorem gA0 (ok:HOk P w H h)(e:KeyAt H a ks):(eq0 P w).is h ks a:=by
 obtain⟨xs,h1,r⟩:=e
 obtain⟨its,vs,ht⟩:=mQ0 ok h1
 refine⟨a,its.toArray,rfl,ht,?_⟩
 rw [List.toList_toArray]
 clear h1 ht
 induction r generalizing its with
 |nil=>cases vs; exact .nil
 |cons p _ ih=>
  cases vs with
  |cons pv vs=>
   obtain⟨c,d,rfl,h2,h3⟩:=p
   cases pv
   refine .cons ?_ (ih _ vs)
   obtain⟨l1,v1,t1⟩:=mQ0 ok h2
   obtain⟨l2,v2,t2⟩:=mQ0 ok h3
   cases v1 with
   |cons q1 v1=>
    cases v1 with
    |cons q2 v1=>
     cases v1
     cases q2
     exact⟨c,_,rfl,t1,_,_,rfl,q1,d,_,rfl,t2,by rw [List.toList_toArray]; exact v2.ints⟩
theorem kE0 (ok:HOk P w H h)(e:Rd H a (.dT kvs)):kvs.length<=sizeLine/\(a==sysModules)=false/\
  ∃xs,KT H kvs xs/\h.DictOfH (eq0 P w) a xs:=by
 obtain⟨z,y,xs,r,o,es,ep,h1,h2,h3,h4,h5⟩:=(show ObjOk P w H h a (.dT kvs) from rd_of ok e)
 refine⟨z,y,xs,r,o,es,ep,h1,h2,h3,h4,λx hx=> ?_,h5⟩
 have all:∀{l:List (SK × V)} {m:List (SK × Addr × Value)},KT H l m->∀x∈m,(eq0 P w).is h x.1 x.2.1:=by
  intro l m q
  induction q with
  |nil=>intro x hx; exact nomatch hx
  | @cons p q ps qs hq t ih=>
   intro x hx
   rcases Ab2.mp hx with e|hx
   ·subst e
    exact gA0 ok (by rw [<- hq.1]; exact hq.2.1)
   ·exact ih x hx
 exact all r x hx
theorem dt_of (ok:HOk P w H h)(e:H a=some (.dT kvs)):kvs.length<=sizeLine/\(a==sysModules)=false/\
  ∃xs,KT H kvs xs/\h.DictOfH (eq0 P w) a xs:=kE0 ok (.inl e)
end
def DGet (H:Hp)(a:Addr)(y:V)(r:Option V):Prop:=
 (∃kvs k,Rd H a (.dK kvs)/\y=kV k/\r=valV kvs k)\/ ∃kvs k b,Rd H a (.dT kvs)/\y=.ref b/\KeyAt H b k/\r=valV kvs k
def DPut (H:Hp)(a:Addr)(y v:V)(H':Hp):Prop:=
 (∃kvs k,H a=some (.dK kvs)/\y=kV k/\kvs.length<sizeLine/\H'=upd H a (.dK (putK kvs k v)))\/
 ∃kvs k b,H a=some (.dT kvs)/\y=.ref b/\KeyAt H b k/\kvs.length<sizeLine/\H'=upd H a (.dT (putK kvs k v))
theorem DGet.k {H:Hp}{a:Addr}{kvs:List (Key × V)}{k:Key}(e:H a=some (.dK kvs)):DGet H a (kV k) (valV kvs k):=.inl ⟨kvs,k,.inl e,rfl,rfl⟩
theorem DGet.t {H:Hp}{a b:Addr}{kvs:List (SK × V)}{k:SK}(e:H a=some (.dT kvs))(eb:KeyAt H b k):DGet H a (.ref b) (valV kvs k):=.inr ⟨kvs,k,b,.inl e,rfl,eb,rfl⟩
theorem DPut.k {H:Hp}{a:Addr}{kvs:List (Key × V)}{k:Key}{v:V}(e:H a=some (.dK kvs))(hl:kvs.length<sizeLine):DPut H a (kV k) v (upd H a (.dK (putK kvs k v))):=.inl ⟨kvs,k,e,rfl,hl,rfl⟩
theorem DPut.t {H:Hp}{a b:Addr}{kvs:List (SK × V)}{k:SK}{v:V}(e:H a=some (.dT kvs))(eb:KeyAt H b k)(hl:kvs.length<sizeLine):
  DPut H a (.ref b) v (upd H a (.dT (putK kvs k v))):=.inr ⟨kvs,k,b,e,rfl,eb,hl,rfl⟩
theorem gf0 {A:Around}(hu:A.units+4<cLine):(eq0 P w).room A.in1:=by show A.units+1+2<cLine; omega
section
variable {X:Cx}{pins:List (Addr × Obj)}{σ:St}{H:Hp}{s:Shared}{a:Addr}{y v:V}{u r:Value}{o:Option V}{A:Around}{E:Value->Shared->Prop}
theorem Inv.big (I:Inv X pins σ H s):sysModules<s.heap.objs.size:=by
 have h:mainGlobals<s.heap.objs.size:=(I.mod.glob.keeps I.bk).lt
 exact Nat.lt_trans (by decide) h
theorem mo0 {Q:Value->Shared->Prop}(hu:A.units+4<cLine)(I:Inv X pins σ H s)(g:DGet H a y (some v))(ry:RelV y u)(h:∀w' s',Inv X pins σ H s'->RelV v w'->Q w' s'):
  wpAny (model X.prog X.w) A (getItem (.ref a) u) Q E s:=by
 rcases g with⟨kvs,k,e,ey,l⟩|⟨kvs,k,b,e,ey,eb,l⟩
 ·subst ey
  obtain⟨z,hd,vs,rel,dd⟩:=kT0 I.hok e
  obtain⟨w',hw,rw'⟩:=RelO.some_of (v:=v) (o:=valueAt vs k) (by rw [l]; exact rel.val k)
  exact wpAny_getItem_of (le0 ry) dd.mapOf hw (h w' _ (I.tok _) rw')
 ·subst ey
  cases (show u=Value.ref b from ry)
  obtain⟨z,hd,xs,rel,dd⟩:=kE0 I.hok e
  obtain⟨w',hw,rw'⟩:=RelO.some_of (v:=v) (o:=(atKey xs k).map (·.2)) (by rw [l]; exact rel.val k)
  obtain⟨p,hp,hp2⟩:=Ap1.mp hw
  refine wpAny_getItem_heap (gf0 hu) (gA0 I.hok eb) dd hp ?_
  rw [hp2]
  exact h w' _ (I.tok _) rw'
theorem d_in {Q:Value->Shared->Prop}(hu:A.units+4<cLine)(I:Inv X pins σ H s)(g:DGet H a y o)(ry:RelV y u)(h:∀s',Inv X pins σ H s'->Q (.bool o.isSome) s'):
  wpAny (model X.prog X.w) A (compareOp .In u (.ref a)) Q E s:=by
 rcases g with⟨kvs,k,e,ey,l⟩|⟨kvs,k,b,e,ey,eb,l⟩
 ·subst ey
  obtain⟨z,hd,vs,rel,dd⟩:=kT0 I.hok e
  refine wpAny_in_of (le0 ry) hd dd.mapOf ?_
  rw [<- (rel.val k).isSome_eq,<- l]
  exact h _ (I.tok _)
 ·subst ey
  cases (show u=Value.ref b from ry)
  obtain⟨z,hd,xs,rel,dd⟩:=kE0 I.hok e
  refine wpAny_in_heap (gf0 hu) (gA0 I.hok eb) hd dd ?_
  have q:=(rel.val k).isSome_eq
  rw [At0] at q
  rw [<- q,<- l]
  exact h _ (I.tok _)
theorem qL0 {Q:Value->Shared->Prop}(hu:A.units+4<cLine)(I:Inv X pins σ H s)(g:DGet H a y o)(ry:RelV y u)(h:∀s',Inv X pins σ H s'->Q (.bool (!o.isSome)) s'):
  wpAny (model X.prog X.w) A (compareOp .NotIn u (.ref a)) Q E s:=by
 rcases g with⟨kvs,k,e,ey,l⟩|⟨kvs,k,b,e,ey,eb,l⟩
 ·subst ey
  obtain⟨z,hd,vs,rel,dd⟩:=kT0 I.hok e
  refine wpAny_notIn_of (le0 ry) hd dd.mapOf ?_
  rw [<- (rel.val k).isSome_eq,<- l]
  exact h _ (I.tok _)
 ·subst ey
  cases (show u=Value.ref b from ry)
  obtain⟨z,hd,xs,rel,dd⟩:=kE0 I.hok e
  refine wpAny_notIn_heap (gf0 hu) (gA0 I.hok eb) hd dd ?_
  have q:=(rel.val k).isSome_eq
  rw [At0] at q
  rw [<- q,<- l]
  exact h _ (I.tok _)
theorem nc0 (I:Inv X pins σ H s)(mu:Mut (H a))(hs:Heap.SameBut a s.heap h')(he:∃q,h'.get? a=some q)(new:ObjOk X.prog X.w (upd H a ob) h' a ob):
  Inv X pins σ (upd H a ob) {s with heap:=h',toks:=t'}:=
 I.write (x:=a) (e:=a) mu (.inl rfl) (λb q hb z=>(hs.2 b hb).trans z) he new
theorem pe0 {h':Heap}{kvs:List (Key × V)}(z:kvs.length<=sizeLine)(hd:(a==sysModules)=false)(rel:KV kvs vs)(dd:h'.DictOf (aO0 P w) a vs):
  ObjOk P w H' h' a (.dK kvs):=⟨z,hd,vs,rel,dd⟩
theorem lS0 {Q:Unit->Shared->Prop}(hu:A.units+4<cLine)(I:Inv X pins σ H s)(g:DPut H a y v H')(ry:RelV y u)(rv:RelV v r)(h:∀s',Inv X pins σ H' s'->Q () s'):
  wpAny (model X.prog X.w) A (setItem (.ref a) u r) Q E s:=by
 rcases g with⟨kvs,k,e,ey,l,eH⟩|⟨kvs,k,b,e,ey,eb,l,eH⟩
 ·subst ey eH
  obtain⟨z,hd,vs,rel,dd⟩:=dk_of I.hok e
  have hz:vs.length<=sizeLine:=by rw [<- rel.length]; exact z
  have hl:(putK kvs k v).length<=sizeLine:=by have:=cD0 kvs k v; omega
  refine wpAny_setItem_pairs (hsz:=hz) (le0 ry) dd λh' dd' hs=>h _ ?_
  have he:∃q,h'.get? a=some q:=let ⟨q,_,_,hq,_⟩:=dd'; ⟨q,hq⟩
  exact nc0 I (by rw [e]; exact True.intro) hs he (pe0 hl hd (rel.put k rv) dd')
 ·subst ey eH
  cases (show u=Value.ref b from ry)
  obtain⟨z,hd,xs,rel,dd⟩:=dt_of I.hok e
  have hz:xs.length<=sizeLine:=by rw [<- Paired.length rel]; exact z
  have hl:(putK kvs k v).length<=sizeLine:=by have:=cD0 kvs k v; omega
  refine wpAny_setItem_heap (hsz:=hz) (gf0 hu) (gA0 I.hok eb) dd λh' dd' hs=>h _ ?_
  obtain⟨q,es,ep,hq,h2,h3,h4,_,h5⟩:=dd'
  refine nc0 I (by rw [e]; exact True.intro) hs ⟨q,hq⟩ ⟨hl,hd,_,(rel.put k eb rv).keeps λc ys ec=> ?_,q,es,ep,hq,h2,h3,h4,h5⟩
  rw [aj0 (bp0 ec e nofun)]
  exact ec
end
section
variable {X:Cx}{pins:List (Addr × Obj)}{σ:St}{H:Hp}{s:Shared}{a:Addr}{kvs:List (Key × V)}{k:Key}{u:Value}{A:Around}{E:Value->Shared->Prop}
end
def NoSl (i:Expr):Prop:=∀ov iv,subscripted i false ov iv=operate [ov,iv] (getItem ov iv)
theorem pY0 {prog:Program}{w:World}{A:Around}{E:Value->Shared->Prop}{s:Shared}{env:Env}{value slice:Expr}{pos:Pos}{T id:String}{Q:Value->Shared->Prop}
  (hl:typeLookup (.type T) "__getitem__" =pure (some (.builtin id))) (hs:NoSl slice)
  (h:wpAny (model prog w) A (eval value env) (λo s₁=>wpAny (model prog w) A (eval slice env) (λi s₂=>s₂.TypeIs o T/\wpAny (model prog w) A (getItem o i) Q E s₂) E s₁) E s):
  wpAny (model prog w) A (eval (.Subscript value slice pos) env) Q E s:=by
 refine Subscript_ (Aj7 h (λo s₁ h₁=>Aj7 h₁ (λi s₂ h₂=> ?_) λ_ _ x=>x) λ_ _ x=>x)
 obtain⟨hT,h₂⟩:=h₂
 unfold subscriptTail
 refine Aa0 ?_
 rw [getitemInPython_of_ne hT.not_modules]
 refine Aa0 (Aq8 hT hl ?_)
 have fin:wpAny (model prog w) A (subscripted slice false o i) (λr s₃=>wpAny (model prog w) A (letTemporaryGo value o r>>=λ_=>pure r) Q E s₃) E s₂:=by
  rw [hs o i]
  exact wpAny_operating (Aj7 h₂ (λr s₃ h₃=>Aa0 (wpAny_letTemporaryGo (Aa8 h₃))) λ_ _ x=>x)
 first
  |exact Aa8 (Aa0 fin)
  |exact Aa0 (Aa8 (Aa0 fin))
  |exact Aa0 fin
theorem ik0 (I:Inv X pins σ H s)(g:DGet H a y o):s.TypeIs (.ref a) "dict" :=by
 rcases g with⟨kvs,k,e,_,_⟩|⟨kvs,k,b,e,_,_,_⟩
 ·obtain⟨_,_,vs,_,dd⟩:=kT0 I.hok e
  exact dd.typeIs
 ·obtain⟨_,_,xs,_,dd⟩:=kE0 I.hok e
  exact dd.typeIs
def tDGet (td ty:TE):TE:=λσ H Q=>td σ H λx H1=>ty σ H1 λy H2=>∃a v,x=.ref a/\DGet H2 a y (some v)/\Q v H2
def tDIn (ty td:TE):TE:=λσ H Q=>ty σ H λy H1=>td σ H1 λx H2=>∃a o,x=.ref a/\DGet H2 a y o/\Q (.bl o.isSome) H2
def qT0 (ty td:TE):TE:=λσ H Q=>ty σ H λy H1=>td σ H1 λx H2=>∃a o,x=.ref a/\DGet H2 a y o/\Q (.bl (!o.isSome)) H2
def sDPut (td ty tv:TE):TS:=λD σ H=>tv σ H λv H1=>td σ H1 λx H2=>ty σ H2 λy H3=>∃a H4,x=.ref a/\DPut H3 a y v H4/\D.nx σ H4
section
variable {X:Cx}{o i e value:Expr}{pos pos' tpos:Pos}{td ty tv:TE}
theorem cF0 (hu:X.A.units+4<cLine)(ho:PE X o td)(hi:PE X i ty)(hs:NoSl i):PE X (.Subscript o i pos) (tDGet td ty):=by
 intro pins s σ H Q I h
 refine pY0 PySem.F.slot_dict_getitem.lookup hs (thn (ho pins s σ H _ I h) λu s1 ⟨x,H1,I1,rx,q1⟩=>thn (hi pins s1 σ H1 _ I1 q1) λiv s2 ⟨y,H2,I2,ry,a,v,ex,g,q2⟩=> ?_)
 subst ex
 obtain rfl:u=Value.ref a:=rx
 exact⟨ik0 I2 g,mo0 hu I2 g ry λw' s3 I3 rw'=>⟨v,H2,I3,rw',q2⟩⟩
theorem oZ0 (hu:X.A.units+4<cLine)(hi:PE X i ty)(ho:PE X o td):PC X .In i o (tDIn ty td):=by
 intro pins s σ H Q I h
 refine thn (hi pins s σ H _ I h) λiv s1 ⟨y,H1,I1,ry,q1⟩=>thn (ho pins s1 σ H1 _ I1 q1) λu s2 ⟨x,H2,I2,rx,a,ov,ex,g,q2⟩=> ?_
 subst ex
 obtain rfl:u=Value.ref a:=rx
 exact d_in hu I2 g ry λs3 I3=>⟨.bl ov.isSome,H2,I3,rfl,q2⟩
theorem cS0 (hu:X.A.units+4<cLine)(hi:PE X i ty)(ho:PE X o td):PC X .NotIn i o (qT0 ty td):=by
 intro pins s σ H Q I h
 refine thn (hi pins s σ H _ I h) λiv s1 ⟨y,H1,I1,ry,q1⟩=>thn (ho pins s1 σ H1 _ I1 q1) λu s2 ⟨x,H2,I2,rx,a,ov,ex,g,q2⟩=> ?_
 subst ex
 obtain rfl:u=Value.ref a:=rx
 exact qL0 hu I2 g ry λs3 I3=>⟨.bl (!ov.isSome),H2,I3,rfl,q2⟩
theorem cP0 (hu:X.A.units+4<cLine)(ho:PE X o td)(hi:PE X i ty)(hv:PE X value tv)(hs:swapsWith value (some (.Subscript o i pos')) pos.line X.env=pure false):
  PS X (.Assign [.Subscript o i pos'] value pos) (sDPut td ty tv):=by
 intro pins s σ H D I h
 refine wpAny_Assign_Subscript (thn (hv pins s σ H _ I h) λr s1 ⟨v,H1,I1,rv,q1⟩=>thn (ho pins s1 σ H1 _ I1 q1) λu s2 ⟨x,H2,I2,rx,q2⟩=>thn (hi pins s2 σ H2 _ I2 q2) λiv s3 ⟨y,H3,I3,ry,a,H4,ex,g,q3⟩=> ?_) hs
 subst ex
 obtain rfl:u=Value.ref a:=rx
 exact lS0 hu I3 g ry rv λs4 I4=>⟨σ,H4,I4,q3⟩
end
theorem ns0 (h:Heap)(hb:sysModules<h.objs.size):ObjOk P w H (h.push {cls:=.type "dict",data:=.dict #[]}) h.objs.size (.dK []):=
 ⟨Ae5 _,beq_eq_false_iff_ne.mpr (Ne.symm (Ad4 hb)),[],.nil,Heap.DictOf.new h⟩
theorem nL0 (h:Heap)(hb:sysModules<h.objs.size):ObjOk P w H (h.push {cls:=.type "dict",data:=.dict #[]}) h.objs.size (.dT []):=
 ⟨Ae5 _,beq_eq_false_iff_ne.mpr (Ne.symm (Ad4 hb)),[],.nil,_,#[],0,Ab7 _ rfl,⟨rfl,rfl,rfl⟩,rfl,rfl,Ag6⟩
def rR0:TE:=λ_ H Q=>∀p,H p=none->Q (.ref p) (upd H p (.dK []))
def sd0:TE:=λ_ H Q=>∀p,H p=none->Q (.ref p) (upd H p (.dT []))
section
variable {X:Cx}{pos:Pos}
theorem eF0:PE X (.Dict [] [] pos) rR0:=λpins s σ H Q I h=>
 wpAny_Dict_empty ⟨.ref s.heap.objs.size,_,I.laid (a:=s.heap.objs.size) (o:=.dK []) (t':=s.toks) (λ_ _ q=>Aa7 _ q) (Ab1 _) (ns0 s.heap I.big),rfl,h _ (I.hok.fresh (Ab1 _))⟩
theorem eC0:PE X (.Dict [] [] pos) sd0:=λpins s σ H Q I h=>
 wpAny_Dict_empty ⟨.ref s.heap.objs.size,_,I.laid (a:=s.heap.objs.size) (o:=.dT []) (t':=s.toks) (λ_ _ q=>Aa7 _ q) (Ab1 _) (nL0 s.heap I.big),rfl,h _ (I.hok.fresh (Ab1 _))⟩
end
section
variable {X:Cx}{pins:List (Addr × Obj)}{σ:St}{H:Hp}{s:Shared}{a:Addr}{y d:V}{u r:Value}{o:Option V}{A:Around}{E:Value->Shared->Prop}
end
section
variable {X:Cx}{o e f:Expr}{apos cpos:Pos}{td ty tx:TE}
end
section
variable {X:Cx}{pins:List (Addr × Obj)}{σ:St}{H:Hp}{s:Shared}{a:Addr}{kvs:List (Key × V)}{A:Around}{E:Value->Shared->Prop}
theorem ox0 {Q:Value->Shared->Prop}(I:Inv X pins σ H s)(e:Rd H a (.dK kvs))(h:∀p s',H p=none->Inv X pins σ (upd H p (.dK kvs)) s'->Q (.ref p) s'):wpAny (model X.prog X.w) A (call (.type "dict") [.ref a]) Q E s:=by
 obtain⟨z,hd,vs,rel,dd⟩:=kT0 I.hok e
 refine kt_call_dict hd dd (by rw [<- rel.length]; exact z) λh' dd' hs=> ?_
 refine h _ _ (I.hok.fresh (Ab1 _)) (I.laid (a:=s.heap.objs.size) (o:=.dK kvs) (t':=s.toks) (λb q hq=> ?_) (Ab1 _) (pe0 z (beq_eq_false_iff_ne.mpr (Ne.symm (Ad4 I.big))) rel dd'))
 exact(hs.2 b (Ad4 (Ab6 hq))).trans (Aa7 _ hq)
end
section
variable {X:Cx}{pins:List (Addr × Obj)}{σ:St}{H:Hp}{s:Shared}{a:Addr}{y:V}{u:Value}{A:Around}{E:Value->Shared->Prop}
end
end L2
namespace Att
open PySem PySem.W PySem.Calls PyProof.Rows
theorem fk0:∀(ns:List Int) (vs:List Value),WellAll P h vs (ns.map WData.int)->IntsAre vs ns:=by
 intro ns
 induction ns with
 |nil=>
  intro vs w
  rw [List.map_nil] at w
  cases w
  exact .nil
 |cons n ns ih=>
  intro vs w
  rw [Ac2] at w
  cases w with
  |cons a b=>
   cases a
   exact .cons _ _ (ih _ b)
theorem nj0 {l:OpenLaw}(hn:l.most=some n)
  (hpre:l.row.toRowW.claim.pre args=true) (hwl:WellAll P h vals args):
  ∃a vs ns,vals=[Value.ref a]/\args=[WData.list (ns.map WData.int)]/\h.get? a=some {cls:=.type "list",data:=.seq vs.toArray}/\IntsAre vs ns/\ns.length<=n:=by
 have hsh:WShape.hasAll [] args [.list .int]=true:=(pre_splitW hpre).1
 have hc:l.pre.holds [] {args:=args}=true:=(pre_splitW hpre).2
 obtain⟨d,r,rfl,h1,h2⟩:=hasAllW_cons hsh
 obtain rfl:=hasAllW_nil h2
 obtain⟨xs,rfl,h3⟩:=hasW_list h1
 obtain⟨ns,rfl⟩:=items_int h3
 have hlen:ns.length<=n:=by
  unfold OpenLaw.pre at hc
  have h4:(WTm.not (.lt (.lit (.int (n:Int))) (.len (.arg 0)))).holds [] {args:=[.list (ns.map .int)]}=true:=by
   have h4:=(holds_andW hc).1
   rw [hn] at h4
   exact h4
  have h5:=condW_of h4 (w_not (w_lt w_lit (w_len_list (w_arg rfl))))
  rw [Aa1] at h5
  refine Nat.le_of_not_lt λq=> ?_
  have q':(n:Int)<((ns.length:Nat):Int):=by omega
  first
   | (rw [Ad9 q'] at h5; exact absurd h5 (by decide))
   | (simp at h5; omega)
 cases hwl with
 |cons w1 w2=>
  cases w2
  cases w1 with
  |list ho hall=>exact⟨_,_,ns,rfl,rfl,ho,fk0 ns _ hall,hlen⟩
theorem mT0 (l:OpenLaw)(args:List WData):l.row.toRowW.claim.post args (.bool true) args=true:=
 postW_of (r:=l.row.toRowW) (X:=(true==true))
  (show WShape.has [] (.bool true) .bool=true by first|rfl|decide|simp [WShape.has,WShape.arms,WShape.armsAll])
  (show (WTm.eq .res (.lit (.bool true))).value [] {args:=args,res:=some (.bool true),after:=args}=some (.bool (true==true)) from w_eq_bool (w_res rfl) w_lit) rfl
theorem attach_call {l:OpenLaw}{XP:(Str->Option Value)->Heap->Prop}{YP:World->Heap->Prop}{d:DefRec}
  (hn:l.most=some n) (hdf:d.params.defaults=[])
  (call:∀(w:World) (s₀ s₁:Shared) (mg mb:Str->Option Value) (fa:Addr) (o:Obj) (pm cd doc:Value) (a:Addr) (vs:List Value) (ns:List Int),
   Ground q loose [] XP w s₀ mg mb s₁.heap->YP w s₁.heap->
   s₁.heap.get? fa=some o->o.data=.func (docDef d.name d.params d.body d.scope pm cd doc)->s₁.heap.CodeRec cd d.name->mg d.name=some (.ref fa)->
   s₁.heap.get? a=some {cls:=.type "list",data:=.seq vs.toArray}->IntsAre vs ns->ns.length<=n->s₁.gens= #[]->
   codeAny (model l.prog w) callerA (.call (.ref fa) ⟨[.ref a],[]⟩) (λr s'=>r=.ok (.ret (.bool true))/\OldK s₁.heap s'.heap/\s'.os=s₁.os/\AllBare s'.gens) s₁):
  WalkO q loose XP YP l.row.toRowW d [] (λf vs=>PySem.call f vs):=by
 intro w s₀ s₁ mg mb G Y fa o pm cd doc dV kV ho hd hcd hD hmg hg args vals as hpre hlay hrd hwl hlo
 obtain rfl:dV=.none:=Dflts.none hD hdf
 obtain rfl:kV=.none:=Dflts.noKw hD
 obtain⟨a,vs,ns,rfl,rfl,hobj,hints,hlen⟩:=nj0 hn hpre hwl
 refine enter_call (Ao4 (call w s₀ s₁ mg mb fa o pm cd doc a vs ns G Y ho (fd_plain hd) hcd hmg hobj hints hlen hg) λr s' hq=> ?_)
 obtain⟨rfl,h2,h3,h4⟩:=hq
 exact⟨.inl ⟨.bool true,.bool true,[],rfl,λ_=>rfl,.bool true,mT0 l _,λ_=>⟨List.Pairwise.nil,λ_ hm=>(nomatch hm)⟩⟩,h2,h3,h4⟩
section
variable {prog:Program}{w:World}{A:Around}{E:Value->Shared->Prop}{s:Shared}{K:Frag}
end
end Att
namespace L2
theorem hC0:∀{vs:List Value} {ns:List Int},IntsAre vs ns->Vals (ns.map V.int) vs
 |_,_,.nil=> .nil
 |_,_,.cons n t h=> .cons ⟨t,rfl⟩ (hC0 h)
def Only (H:Hp):Prop:=∀b,H b=none\/ ∃o xs,H b=some (.frz o (.lst xs))
theorem nU0 {K:Aa3}{mg mb:Str->Option Value}{s₁:Shared}{vs:List Value}
  (KX:K.In s₁.heap) (hns:s₁.heap.Ns mainGlobals mg) (hb:s₁.heap.Ns builtinsNs mb) (hbb:∀x:Str,x≠ "__name__" ->mb x=bootBuiltins x) (hlim:s₁.heap.NoLimit) (hg:s₁.gens= #[])
  (ha:s₁.heap.get? a=some {cls:=.type "list",data:=.seq vs.toArray}) (hi:IntsAre vs ns) (hl:ns.length<=sizeLine) (hr:Room k callerA)
  (F:∀base:Heap,K.In base->base.Ns mainGlobals mg->FnOk P w K mg base CX k fa fd [x] sp) (hbind:∀(s:Shared) (u:Value),BindsTo s fd ⟨[u],[]⟩ [(x,u)])
  (hsp:∀H:Hp,Only H->SqL K H a (ns.map V.int)->sp [.ref a] H (λv _=>v=.bl true) λ_ _ _=>False)
  (hCX:∀H e s',CX [] H s₁ (λ_ _ _=>False) e s'->False):
  codeAny (model P w) callerA (.call (.ref fa) ⟨[.ref a],[]⟩) (λr s'=>r=.ok (.ret (.bool true))/\OldK s₁.heap s'.heap/\s'.os=s₁.os/\AllBare s'.gens) s₁:=by
 have rv:=hC0 hi
 have lenV:=hi.length
 -- from an abstract heap in which nothing but the script may be tracked
 have core:∀H:Hp,Only H->SqL K H a (ns.map V.int)->HOk P w H s₁.heap->(∀b,H b≠none->b=a)->(H a≠none->K.lookup a=none)->
   codeAny (model P w) callerA (.call (.ref fa) ⟨[.ref a],[]⟩) (λr s'=>r=.ok (.ret (.bool true))/\OldK s₁.heap s'.heap/\s'.os=s₁.os/\AllBare s'.gens) s₁:=by
  intro H hO hS hok hA hK
  have base_of:∀{b:Addr} {o:Obj},s₁.heap.get? b=some o->H b=none->(hidT s₁.heap H).get? b=some o:=λe n=>ow0 e n
  have noA:∀{b:Addr} {o:Obj} {es:Array DictEntry} {ep:Nat},s₁.heap.get? b=some o->o.data=.dict es ep->H b=none:=λ{b o es ep} e d=>by
   cases q:H b with
   |none=>rfl
   |some u=>
    have e':b=a:=hA b (by rw [q]; simp)
    subst e'
    rw [ha] at e; cases e
    have d':Data.seq vs.toArray _=Data.dict es ep:=d
    cases d'
  have nsK:∀{b:Addr} {m:Str->Option Value},s₁.heap.Ns b m->(hidT s₁.heap H).Ns b m:=λ{b m} ⟨o,es,ep,e,d,r⟩=>⟨o,es,ep,base_of e (noA e d),d,r⟩
  have hKb:K.In (hidT s₁.heap H):=λb o e=>base_of (KX b o e) (by
   cases q:H b with
   |none=>rfl
   |some u=>
    have e':b=a:=hA b (by rw [q]; simp)
    subst e'
    rw [hK (by rw [q]; simp)] at e; cases e)
  have hM:Mod K mg (hidT s₁.heap H):=⟨hKb,nsK hns,⟨mb,nsK hb,hbb⟩,let ⟨mc,h1,h2⟩:=hlim; ⟨mc,nsK h1,h2⟩⟩
  have e0:Env0 P w K mg (hidT s₁.heap H) callerA [] s₁ H:=⟨rfl,hM,λb o e=>pK0 e,Aw3 (nf0 _ _),trivial,λb hb=>absurd (show b∈([]:List Addr) from hb) (by simp),hok,.of_eq hg⟩
  refine Ao4 ((F _ hKb (nsK hns)).run callerA [] s₁ H ⟨[.ref a],[]⟩ [.ref a] [.ref a] _ _ hr e0 (hbind s₁ (.ref a)) (.cons rfl .nil) (hsp H hO hS)) λr s' h=> ?_
  cases r with
  |error e=>exact(hCX H e s' h).elim
  |ok fl=>
   cases fl with
   |next=>exact False.elim h
   |brk=>exact False.elim h
   |cont=>exact False.elim h
   |ret u=>
    obtain⟨v,H',os,bare,un,hok',r',q⟩:=h
    have q':v=.bl true:=q
    subst q'
    obtain rfl:u=Value.bool true:=r'
    refine⟨rfl,OldK.of_keep λb o e=> ?_,os,bare⟩
    cases q:H b with
    |none=>exact un.keep b o e q (by intro z; exact absurd (show b∈([]:List Addr) from z) (by simp)) (by simp)
    |some u=>
     rcases hO b with z|⟨ob,xs,z⟩
     ·rw [q] at z; cases z
     ·have z2:=un.frzs b ob _ z
      obtain⟨e1,_⟩:=hok b _ z
      obtain⟨e2,_⟩:=hok' b _ z2
      rw [e] at e1; cases e1
      exact e2
 cases hk:K.lookup a with
 |some o=>
  -- the script is one of the module's own objects
  have e:=KX a o hk
  rw [ha] at e
  cases e
  refine core (λ_=>none) (λ_=> .inl rfl) (.inr ⟨_,vs.toArray,_,hk,rfl,rfl,rfl,by rw [Ab8,lenV]; exact hl,by simpa using rv⟩) (λb u z=>by have z':(none:Option HO)=some u:=z; cases z') (λb z=>absurd rfl z) λz=>absurd rfl z
 |none=>
  refine core (λb=>if b=a then some (.frz {cls:=.type "list",data:=.seq vs.toArray} (.lst (ns.map V.int))) else none) (λb=> ?_) (.inl (.inr ⟨{cls:=.type "list",data:=.seq vs.toArray},if_pos rfl⟩)) (λb u z=> ?_) (λb z=> ?_) λ_=>hk
  ·by_cases hb:b=a
   ·exact .inr ⟨_,_,if_pos hb⟩
   ·exact .inl (if_neg hb)
  ·by_cases hb:b=a
   ·have z':=(if_pos hb).symm.trans z
    cases z'
    subst hb
    exact⟨ha,by rw [Aa1]; exact hl,vs,_,rv,ha⟩
   ·have z':=(if_neg hb).symm.trans z
    cases z'
  ·by_cases hb:b=a
   ·exact hb
   ·exact absurd (if_neg hb) z
theorem walk_of {l:PySem.W.OpenLaw}{XP:(Str->Option Value)->Heap->Prop}{YP:World->Heap->Prop}{d:DefRec}{K:Params->Aa3}{CX:World->CXT}{sp:World->Sp}
  (hn:l.most=some n) (hn2:n<=sizeLine) (hdf:d.params.defaults=[]) (hr:Room k callerA)
  (hY:∀(w:World) (h:Heap),YP w h->(K w.params).In h)
  (F:∀(w:World) (mg:Str->Option Value) (fa:Addr) (h:Heap),(K w.params).In h->h.Ns mainGlobals mg->mg d.name=some (.ref fa)->
   ∃fd:FuncData,(∀(s:Shared) (u:Value),BindsTo s fd ⟨[u],[]⟩ [(x,u)])/\
    ∀base:Heap,(K w.params).In base->base.Ns mainGlobals mg->FnOk l.prog w (K w.params) mg base (CX w) k fa fd [x] (sp w))
  (hsp:∀(w:World) (H:Hp) (a:Addr) (ns:List Int),ns.length<=n->Only H->SqL (K w.params) H a (ns.map V.int)->sp w [.ref a] H (λv _=>v=.bl true) λ_ _ _=>False)
  (hCX:∀(w:World) (H:Hp) (s:Shared) (e:Value) (s':Shared),CX w [] H s (λ_ _ _=>False) e s'->False):
  PySem.W.WalkO q loose XP YP l.row.toRowW d [] (λf vs=>PySem.call f vs):=by
 refine Att.attach_call hn hdf λw s₀ s₁ mg mb fa o pm cd doc a vs ns G Y ho hd hcd hmg hobj hints hlen hg=> ?_
 have KX:=hY w _ Y
 obtain⟨fd,hb,hF⟩:=F w mg fa _ KX G.T.g hmg
 exact nU0 KX G.T.g G.T.b G.T.builtins G.T.nolimit hg hobj hints (Ac6 hlen hn2) hr hF hb (λH hO hS=>hsp w H a ns hlen hO hS) λH e s'=>hCX w H s₁ e s'
abbrev CX0:CXT:=λ_ _ _ _ _ _=>False
abbrev E0:XK:=λ_ _ _=>False
theorem bf0:eJ0 CX0 X E0:=λ_ _ _ _ _ _ _ h=>h.elim
structure Fun (K:Aa3)(x qual:Str)(st:Stmt)(f:Addr)(fd:FuncData):Prop where
 ex:∃(oc:Value) (od:Option Addr) (kV doc pm:Value) (an:Option Addr) (cdv ct:Value) (osl:Array (Option Value)),
  fd=PySem.W.fnOf x qual (bC0 st) (br0 st) (ad0 st) .none kV doc pm an cdv ct/\K.lookup f=some ⟨oc,od,.func fd,osl⟩/\PySem.W.codeIn K cdv qual=true
 kp:PySem.W.keepIn K (.ref f)=true
section
variable {P:Program}{w:World}{K:Aa3}{mg:Str->Option Value}{base:Heap}
theorem Fun.ok {x qual:Str}{st:Stmt}{f:Addr}{fd:FuncData}{N ps:List Str}{k:Nat}{sp:Sp}(F:Fun K x qual st f fd)(S:FnScope N ps (ad0 st))(len:∀vs H Q E,sp vs H Q E->vs.length=ps.length)
  (hbody:∀(cdv:Value) (A:Around) (outer:List Env) (s:Shared) (H:Hp) (vs:List V) (Q:VK) (E:XK),Room k (A.deeper (envOfC qual (ad0 st) s.heap.objs.size f cdv))->sp vs H Q E->
   ∃t,PSs (cxOf CX0 P w K mg base N qual (ad0 st) f cdv A outer s H E).nox (br0 st) t/\t {nx:=λ_ H'=>Q .non H',rt:=Q} (start N vs) H):FnOk P w K mg base CX0 (k+1) f fd ps sp:=by
 obtain⟨oc,od,kV,doc,pm,an,cdv,ct,osl,rfl,lk,hcd⟩:=F.ex
 refine fn_of lk hcd S len λA outer s H vs Q E hr hsp=> ?_
 obtain⟨t,h,q⟩:=hbody cdv A outer s H vs Q E hr hsp
 exact⟨t,h.nox,q⟩
theorem Fun.binds {x qual:Str}{st:Stmt}{f:Addr}{fd:FuncData}{ps:List Str}(F:Fun K x qual st f fd)
  (h:∀(kV doc pm:Value) (an:Option Addr) (cdv ct:Value) (us:List Value),us.length=ps.length->bindArgs (PySem.W.fnOf x qual (bC0 st) (br0 st) (ad0 st) .none kV doc pm an cdv ct) ⟨us,[]⟩=pure (ps.zip us)):Binds K fd ps []:=by
 obtain⟨oc,od,kV,doc,pm,an,cdv,ct,osl,rfl,lk,hcd⟩:=F.ex
 exact .all (h kV doc pm an cdv ct)
theorem eK0 {x qual:Str}{st:Stmt}{f:Addr}{oc:Value}{od an:Option Addr}{osl:Array (Option Value)}{kV doc pm cdv ct:Value}(l:K.lookup f=some ⟨oc,od,.func (PySem.W.fnOf x qual (bC0 st) (br0 st) (ad0 st) .none kV doc pm an cdv ct),osl⟩)
  (c:PySem.W.codeIn K cdv qual=true) (k:PySem.W.keepIn K (.ref f)=true):Fun K x qual st f (PySem.W.fnOf x qual (bC0 st) (br0 st) (ad0 st) .none kV doc pm an cdv ct):=⟨⟨oc,od,kV,doc,pm,an,cdv,ct,osl,rfl,l,c⟩,k⟩
end
theorem ce0 (hr:Room k A):A.units+4<cLine:=Ao1 (Ar5 (by decide:4<=64) _) hr.units
section
variable {X:Cx}
theorem pv (i:Nat)(hN:X.N[i]?=some x:=by rfl)(hv:Vis X.env.scope x:=by first|exact Or.inl rfl|exact Or.inr (Or.inl rfl)|exact Or.inr (Or.inr rfl))(hd:(x==("__debug__" :Str))=false:=by decide)
  (hcd:(x==("__classdict__" :Str))=false:=by decide):PE X (.Name x pos) (tVar i):=sf0 hN hv hd hcd
end
theorem iteF {A B:Prop}(h:B):if false=true then A else B:=by
 rw [if_neg Ab4]
 exact h
theorem iteT {A B:Prop}(h:A):if true=true then A else B:=by
 rw [if_pos rfl]
 exact h
section
variable {κ:Type} [DecidableEq κ]
theorem kX0:∀{l:List κ} {k:κ},l.Nodup->¬k∈l->(l++ [k]).Nodup
 | [],k,_,_=>by simp
 |a::r,k,h,hk=>by
  obtain⟨h1,h2⟩:=Ae8.mp h
  show (a::(r++ [k])).Nodup
  refine Ae8.mpr ⟨λm=> ?_,kX0 h2 λm=>hk (Ab2.mpr (Or.inr m))⟩
  rcases Ad8.mp m with q|q
  ·exact h1 q
  ·exact hk (Ab2.mpr (Or.inl (Aa6.mp q).symm))
end
def cE0 (env:Env):List (Str × NameKind)->List (Str × Addr)->List (Str × Addr)
 | [],acc=>acc
 | (n,k)::r,acc=>if k==.free then cE0 env r ((n,(env.cells.lookup n).getD 0)::acc) else cE0 env r acc
theorem fH0 {env:Env}:∀(names:List (Str × NameKind)) (acc:List (Str × Addr)),(∀x∈names,x.2=.free->∃c,env.cells.lookup x.1=some c)->
  (forIn (m:=Sem) names acc λx cs=>match x with|(name,kind)=>if kind==NameKind.free then(do let c<- cellOf env name; pure (ForInStep.yield ((name,c)::cs))) else pure (ForInStep.yield cs))=pure (cE0 env names acc)
 | [],acc,_=>rfl
 | (n,k)::r,acc,h=>by
  rw [Au6]
  have hr:=λacc'=>fH0 r acc' λx hx=>h x (Ae6 _ hx)
  cases hk:(k==NameKind.free) with
  |true=>
   have hk':k=.free:=by simpa using hk
   obtain⟨c,hc⟩:=h (n,k) Af8 hk'
   have hc:env.cells.lookup n=some c:=hc
   have e:cE0 env ((n,k)::r) acc=cE0 env r ((n,c)::acc):=by
    show (if(k==NameKind.free)=true then _ else _)=_
    rw [hk,if_pos rfl,hc]
    rfl
   rw [e]
   simp only [hk,Al1,cellOf,hc]
   exact hr ((n,c)::acc)
  |false=>
   have e:cE0 env ((n,k)::r) acc=cE0 env r acc:=by
    show (if(k==NameKind.free)=true then _ else _)=_
    rw [hk,if_neg Ab4]
   rw [e]
   simp only [hk,Ad6,Ah2]
   exact hr acc
theorem dK0 {env:Env}{scope:Scope}(h:∀x∈scope.names,x.2=.free->∃c,env.cells.lookup x.1=some c):closureFor scope env=pure (cE0 env scope.names []):=by
 have e:=fH0 scope.names [] h
 unfold closureFor
 have e2:(forIn (m:=Sem) scope.names ([]:List (Str × Addr)) λx r=>match x with|(name,kind)=>if kind==NameKind.free then(do let c<- cellOf env name; pure (ForInStep.yield ((name,c)::r))) else pure (ForInStep.yield r))=pure (cE0 env scope.names []):=e
 first
  | (rw [e2]; rfl)
  | (simp only [e2]; rfl)
  |exact congrArg (λz=>z>>=λcs=>pure cs) e2
theorem gs0 {env:Env}:∀(names:List (Str × NameKind)) (acc:List (Str × Addr)),(∀x∈names,x.2=.free->∃c,env.cells.lookup x.1=some c)->(∀x c,acc.lookup x=some c->env.cells.lookup x=some c)->
  ∀x c,(cE0 env names acc).lookup x=some c->env.cells.lookup x=some c
 | [],_,_,ha,x,c,e=>ha x c e
 | (n,k)::r,acc,h,ha,x,c,e=>by
  have hr:∀x∈r,x.2=.free->∃c,env.cells.lookup x.1=some c:=λx hx=>h x (Ae6 _ hx)
  unfold cE0 at e
  cases hk:(k==NameKind.free) with
  |true=>
   obtain⟨d,hd⟩:=h (n,k) Af8 (by simpa using hk)
   have hd:env.cells.lookup n=some d:=hd
   rw [hk,if_pos rfl,hd] at e
   refine gs0 r _ hr (λy c' q=> ?_) x c e
   rw [Ac5] at q
   cases hy:y==n with
   |true=>
    rw [hy] at q
    have e1:y=n:=by simpa using hy
    rw [e1,hd]
    exact q
   |false=>rw [hy] at q; exact ha y c' q
  |false=>
   rw [hk,if_neg Ab4] at e
   exact gs0 r acc hr ha x c e
theorem in0:∀(names:List (Str × NameKind)) (acc:List (Str × Addr)),(∃c,acc.lookup x=some c)->∃c,(cE0 env names acc).lookup x=some c
 | [],_,h=>h
 | (n,k)::r,acc,h=>by
  unfold cE0
  split
  ·refine in0 r _ ?_
   rw [Ac5]
   cases hy:x==n with
   |true=>exact⟨_,rfl⟩
   |false=>exact h
  ·exact in0 r acc h
theorem gm0:∀(names:List (Str × NameKind)) (acc:List (Str × Addr)),(x,NameKind.free)∈names->∃c,(cE0 env names acc).lookup x=some c
 | [],_,h=>nomatch h
 | (n,k)::r,acc,h=>by
  unfold cE0
  rcases Ab2.mp h with e|h
  ·cases e
   rw [if_pos (by rfl)]
   exact in0 r _ ⟨(env.cells.lookup x).getD 0,by rw [Ac5]; simp⟩
  ·split
   ·exact gm0 r _ h
   ·exact gm0 r _ h
def er0 (scope:Scope)(own N:List Str)(oc:Scope):Bool:=
 scope.kind==.function && scope.names.all (λx=>x.2 !=.cell) && scope.names.all (λx=>x.2 !=.local||scope.names.lookup x.1==some .local) &&
 scope.names.all (λx=>x.2 !=.free||(scope.names.lookup x.1==some .free && (oc.names.lookup x.1==some .cell||oc.names.lookup x.1==some .free))) &&
 scope.names.lookup Str.empty==none &&
 N.all (λy=>own.contains y||(scope.names.lookup y !=some .local && scope.names.lookup y !=some .cell))
def hide (own:List Str)(N:List Str):List Str:=N.map λy=>if own.contains y then Str.empty else y
structure CompOk (scope:Scope)(own N:List Str)(oc:Scope):Prop where
 kind:scope.kind=.function
 nocell:∀x∈scope.names,x.2≠ .cell
 loc:∀x∈scope.names,x.2=.local->scope.names.lookup x.1=some .local
 free:∀x∈scope.names,x.2=.free->scope.names.lookup x.1=some .free/\(oc.names.lookup x.1=some .cell\/ oc.names.lookup x.1=some .free)
 empty:scope.names.lookup Str.empty=none
 outer:∀y∈N,own.contains y=false->scope.names.lookup y≠some .local/\scope.names.lookup y≠some .cell
theorem gS0 (h:er0 scope own N oc=true):CompOk scope own N oc:=by
 unfold er0 at h
 simp only [Ac8,An4,Bool.or_eq_true,bne_iff_ne,ne_eq,beq_iff_eq] at h
 obtain⟨⟨⟨⟨⟨h1,h2⟩,h3⟩,h4⟩,h5⟩,h6⟩:=h
 refine⟨h1,λx hx=>h2 x hx,λx hx e=> ?_,λx hx e=> ?_,h5,λy hy e=> ?_⟩
 ·rcases h3 x hx with q|q
  ·exact absurd e q
  ·exact q
 ·rcases h4 x hx with q|q
  ·exact absurd e q
  ·exact q
 ·rcases h6 y hy with q|q
  ·rw [e] at q; cases q
  ·exact q
def blk (X:Cx)(N:List Str)(scope:Scope)(C:Addr)(s₂:Shared)(H₂:Hp)(fp:List Addr):Cx where
 prog:=X.prog
 w:=X.w
 K:=X.K
 mg:=X.mg
 base:=X.base
 A:=X.A
 N:=N
 s₀:=s₂
 H₀:=H₂
 env:=compEnvC scope (cE0 X.env scope.names []) C X.env
 outer:=X.stack
 stack:=X.stack
 ex:=fp
 fn:=λ_=>false
 calm:=X.calm
 pn:=[]
 xe:=λ_ _=>False
theorem cY0 {scope:Scope}{env:Env}:∀(names:List (Str × NameKind)),
  (names.map λ(n,k)=>if(k==NameKind.free && env.scope.kind==.function && env.kindOf n==some .cell) then(n,NameKind.cell) else(n,k)).lookup x=
   (names.lookup x).map λk=>if(k==NameKind.free && env.scope.kind==.function && env.kindOf x==some .cell) then NameKind.cell else k
 | []=>rfl
 | (n,k)::r=>by
  have ih:=cY0 (scope:=scope) (env:=env) (x:=x) r
  rw [Ac2]
  show List.lookup x ((if(k==NameKind.free && env.scope.kind==.function && env.kindOf n==some .cell)=true then(n,NameKind.cell) else(n,k))::_)=_
  cases hx:x==n with
  |true=>
   have e:x=n:=by simpa using hx
   subst e
   by_cases hc:(k==NameKind.free && env.scope.kind==.function && env.kindOf x==some .cell)=true
   ·rw [if_pos hc,Ac5,Ac5,Ah7]
    show some NameKind.cell=Option.map _ (some k)
    rw [Ad5,if_pos hc]
   ·rw [if_neg hc,Ac5,Ac5,Ah7]
    show some k=Option.map _ (some k)
    rw [Ad5,if_neg hc]
  |false=>
   by_cases hc:(k==NameKind.free && env.scope.kind==.function && env.kindOf n==some .cell)=true
   ·rw [if_pos hc]; simp only [Ac5,hx]; exact ih
   ·rw [if_neg hc]; simp only [Ac5,hx]; exact ih
section
variable {X:Cx}{pins:List (Addr × Obj)}{σ:St}{H:Hp}{s:Shared}{scope:Scope}{own N:List Str}{fp:List Addr}{C:Addr}
theorem dY0 (I:Inv X pins σ H s)(ck:CompOk scope own X.N X.env.scope):∀x∈scope.names,x.2=.free->∃c,X.env.cells.lookup x.1=some c:=λx hx e=>by
 obtain⟨_,h⟩:=ck.free x hx e
 exact I.ok.has x.1 h
theorem cd0 (I:Inv X pins σ H s)(ck:CompOk scope own X.N X.env.scope)(h:(cE0 X.env scope.names []).lookup x=some c):X.env.cells.lookup x=some c:=
 gs0 scope.names [] (dY0 I ck) (λ_ _ z=>nomatch z) x c h
theorem rM0 (I:Inv X pins σ H s)(ck:CompOk scope own X.N X.env.scope)(hf:∀b∈fp,FpOk X pins H b)(hC:s.heap.objs.size<=C)(hCf:∀b∈fp,b≠C):(blk X N scope C s H fp).Ok where
 mod:=I.ok.mod
 kind:=ck.kind
 glob:=I.ok.glob
 blt:=I.ok.blt
 above:=hC
 inj:=λx y c h1 h2=>I.ok.inj x y c (cd0 I ck h1) (cd0 I ck h2)
 has:=λx h=>by
  have e:(relabel scope X.env).names.lookup x=some .cell\/ (relabel scope X.env).names.lookup x=some .free:=h
  have l:=cY0 (scope:=scope) (env:=X.env) (x:=x) scope.names
  have l':(relabel scope X.env).names.lookup x=(scope.names.lookup x).map λk=>if(k==NameKind.free && X.env.scope.kind==.function && X.env.kindOf x==some .cell) then NameKind.cell else k:=l
  rw [l'] at e
  have hfree:scope.names.lookup x=some .free:=by
   cases q:scope.names.lookup x with
   |none=>rw [q] at e; rcases e with e|e<;>cases e
   |some k=>
    have hm:(x,k)∈scope.names:=Ah9 q
    rw [q] at e
    by_cases hk:k=.free
    ·rw [hk]
    ·have hb:(k==NameKind.free)=false:=by simpa using hk
     simp only [hb,Ai1,Ad6,Ah2,Ad5] at e
     rcases e with e|e
     ·cases e; exact absurd rfl (ck.nocell _ hm)
     ·cases e; exact absurd rfl hk
  exact gm0 scope.names [] (Ah9 hfree)
 cab:=λ_ _ h _=>by cases h
 hd:=I.ok.hd
 frames:=I.ok.frames
 stk:=.inl rfl
 exf:=λb hb=>⟨hCf b hb,λx c h=>(hf b hb).2.2.2.2.1 x c (cd0 I ck h)⟩
 bs:=I.bs
 bsz:=Ac6 I.ok.bsz I.sz
 noex:=λb o e hb=>by
  obtain⟨_,_,_,h,_⟩:=hf b hb
  rcases h with h|h
  ·exact I.ok.noex b o e h
  ·exact absurd (Ad1 (Ab6 e) (Ac6 I.ok.bsz h)) (Ai6 _)
 exfs:=λb hb z=>by
  obtain⟨_,h1,h2,_⟩:=hf b hb
  rcases Ab2.mp (I.stkSub b z) with e|e
  ·exact h1 e
  ·exact h2 e
 funs:=I.stack
 frf:=I.stkFree
theorem py0 {h₁:Heap}(I:Inv X pins σ H s)(ck:CompOk scope own X.N X.env.scope)(hf:∀b∈fp,FpOk X pins H b)(hfo:∀b∈fp,b<s.heap.objs.size)(hC:s.heap.objs.size<=C)(hD:s.heap.objs.size<=D)(hDC:D≠C)
  (old:∀b o,s.heap.get? b=some o->h₁.get? b=some o) (hns:h₁.Ns C λ_=>none) (hoD:h₁.get? D=some oD) (hcell:∀v,oD.data≠ .cell v):
  Inv (blk X (own++hide own X.N) scope C s H fp) [(D,oD)] (List.replicate own.length none++σ) H {s with heap:=h₁,toks:=tk} where
 ok:=rM0 I ck hf hC λb hb z=>absurd (hfo b hb) (by rw [z]; exact An5.mpr hC)
 os:=rfl
 bare:=I.bare
 base:=Un.kept old
 loc:=by
  refine⟨_,hns,λi x v e1 e2 e3=> ?_⟩
  have e1:(own++hide own X.N)[i]?=some x:=e1
  have hi:¬i<own.length:=λhi=>by
   rw [Ab3 (by simpa using hi),Af5,if_pos hi] at e2
   cases e2
  rw [Ab9 (by simpa using hi),Af3] at e2
  rw [Ab9 (by omega)] at e1
  unfold hide at e1
  rw [Ab0] at e1
  cases q:X.N[i - own.length]? with
  |none=>rw [q] at e1; cases e1
  |some y=>
   rw [q] at e1
   have e1:(if own.contains y=true then Str.empty else y)=x:=Option.some.inj e1
   have l:(relabel scope X.env).names.lookup x=(scope.names.lookup x).map λk=>if(k==NameKind.free && X.env.scope.kind==.function && X.env.kindOf x==some .cell) then NameKind.cell else k:=cY0 (scope:=scope) (env:=X.env) (x:=x) scope.names
   have e3:(relabel scope X.env).names.lookup x=some .local\/ (relabel scope X.env).names.lookup x=some .cell\/ (relabel scope X.env).names.lookup x=some .free:=e3
   cases ho:own.contains y with
   |true=>
    rw [ho,if_pos rfl] at e1
    subst e1
    rw [l,ck.empty] at e3
    rcases e3 with e3|e3|e3<;>cases e3
   |false=>
    rw [ho,if_neg Ab4] at e1
    subst e1
    obtain⟨n1,n2⟩:=ck.outer y (Ac7 q) ho
    have hfree:scope.names.lookup y=some .free:=by
     rw [l] at e3
     cases q:scope.names.lookup y with
     |none=>rw [q] at e3; rcases e3 with e3|e3|e3<;>cases e3
     |some k=>
      by_cases hk:k=.free
      ·rw [hk]
      ·have hb:(k==NameKind.free)=false:=by simpa using hk
       rw [q] at e3
       simp only [hb,Ai1,Ad6,Ah2,Ad5] at e3
       rcases e3 with e3|e3|e3
       ·cases e3; exact absurd q n1
       ·cases e3; exact absurd q n2
       ·cases e3; exact absurd rfl hk
    obtain⟨_,ho2⟩:=ck.free (y,.free) (Ah9 hfree) rfl
    have ho2:X.env.scope.names.lookup y=some .cell\/ X.env.scope.names.lookup y=some .free:=ho2
    obtain⟨m,hn,hl⟩:=I.loc
    obtain⟨u,r,lk⟩:=hl (i - own.length) y v q e2 (ho2.elim (λz=> .inr (.inl z)) λz=> .inr (.inr z))
    refine⟨u,r,.inr ⟨?_,?_⟩⟩
    ·show (relabel scope X.env).names.lookup y=some .cell\/ (relabel scope X.env).names.lookup y=some .free
     rcases e3 with z|z|z
     ·exfalso
      rw [l,hfree] at z
      simp only [Ad5] at z
      split at z<;>cases z
     ·exact .inl z
     ·exact .inr z
    ·rcases lk with⟨k,_⟩|⟨_,c,hc,hcell⟩
     ·have k:X.env.scope.names.lookup y=some .local:=k
      rw [k] at ho2
      rcases ho2 with z|z<;>cases z
     ·obtain⟨c',hc'⟩:=gm0 (env:=X.env) scope.names [] (Ah9 hfree)
      have e:=cd0 I ck hc'
      rw [hc] at e
      cases e
      obtain⟨o,ho,hd⟩:=hcell
      exact⟨c,hc',o,old c o ho,hd⟩
 cell:=λx c h=>by
  obtain⟨v,o,ho,hd⟩:=I.cell x c (cd0 I ck h)
  exact⟨v,o,old c o ho,hd⟩
 free:=I.hok.fresh hC
 freeC:=λx c h=>I.freeC x c (cd0 I ck h)
 pin:=λp hp=>by
  have e:p=(D,oD):=by simpa [blk] using hp
  subst e
  refine⟨hoD,I.hok.fresh hD,hDC,λz=> ?_,hcell⟩
  rcases Ab2.mp (I.stkSub D z) with e|e
  ·exact absurd I.lt (by rw [<- e]; exact An5.mpr hD)
  ·exact I.nofs hD e
 hok:=I.hok.kept old
 len:=by
  show (List.replicate own.length none++σ).length=(own++hide own X.N).length
  unfold hide
  rw [Aa5,Aa5,Af3,Aa1,I.len]
end
theorem gD0 {prog:Program}{w:World}{A:Around}{R:Result->Shared->Prop}{s:Shared}{elt target iter:Expr}{ifs:List Expr}{scope:Scope}{pos:Pos}{it acc:Value}{env:Env}(I:Nat->Shared->Prop)
  (turn:∀n s,I n s->wpAny (model prog w) A (pyNext it) (λr s₁=>match r with
   |none=>R (.ok .next) s₁
   |some v=>wpAny (model prog w) A (letOwnedTupleGo target it v) (λ_ s₁'=>wpAny (model prog w) A (assign target env v) (λ_ s₂=>
     wpAny (model prog w) A (forIn ifs true λc r=>if r=true then do let ok<- isTrue c env (eval c env); pure (ForInStep.yield ok) else pure (ForInStep.yield r)) (λok s₃=>
      if ok=true then wpAny (model prog w) A (eval elt env) (λx s₄=>
       wpAny (model prog w) A (call (.builtin "list.append") [acc,x]) (λ_ s₅=>∃m,m<n/\I m s₅) (λ_ _=>False) s₄) (λ_ _=>False) s₃
      else∃m,m<n/\I m s₃) (λ_ _=>False) s₂) (λ_ _=>False) s₁') (λ_ _=>False) s₁) (λ_ _=>False) s)
  (n:Nat) (h:I n s):
  codeAny (model prog w) A (.compLoop (.ListComp elt [⟨target,iter,ifs,0⟩] scope pos) 0 it acc env) R s:=by
 refine codeAny_loop rfl I (λn s hI=> ?_) n h
 show wpAny _ A ((compTurn (.ListComp elt [⟨target,iter,ifs,0⟩] scope pos) 0 it acc env).onRaise (λx=>do noteFrame x env; theTreesLotGoes x)) _ _ s
 refine wpAny_noted ?_
 rw [compTurn_list]
 refine Aa0 (wpAny_standAt (Aa0 (Aj7 (turn n s hI) (λr s₁ h₁=> ?_) λ_ _ h'=>h'.elim)))
 cases r with
 |none=>exact Aa8 h₁
 |some v=>
  refine Aa0 (Aj7 h₁ (λ_ s₁' h₁'=>Aa0 (Aj7 h₁' (λ_ s₂ h₂=>Aa0 (Aj7 h₂ (λok s₃ h₃=> ?_) λ_ _ h'=>h'.elim)) λ_ _ h'=>h'.elim)) λ_ _ h'=>h'.elim)
  cases ok with
  |false=>exact Aa8 ⟨rfl,h₃⟩
  |true=>
   exact Aa0 (Aa0 (Aj7 h₃ (λx s₄ h₄=>Aa0 (Aj7 h₄ (λ_ s₅ h₅=>Aa8 (Aa8 ⟨rfl,h₅⟩)) λ_ _ h'=>h'.elim)) λ_ _ h'=>h'.elim))
def PIf (X:Cx)(ifs:List Expr)(t:TT):Prop:=
 ∀(pins:List (Addr × Obj)) (s:Shared) (σ:St) (H:Hp) (Q:Bool->Hp->Prop),Inv X pins σ H s->t σ H Q->
  wpAny (model X.prog X.w) X.A (forIn ifs true λc r=>if r=true then do let ok<- isTrue c X.env (eval c X.env); pure (ForInStep.yield ok) else pure (ForInStep.yield r)) (TP X pins σ Q) X.xe s
def nE0:TT:=λ_ H Q=>Q true H
theorem gn0:PIf X [] nE0:=λpins s σ H Q I h=>wpAny_tests_nil ⟨H,I,h⟩
theorem hV0 (h:PT X c t):PIf X [c] t:=λpins s σ H Q I q=>wpAny_tests_one (h pins s σ H Q I q)
def me0 (n:Nat)(wi:TI)(g:TG)(tt:TT)(te:TE):TE:=λσ H Q=>wi σ H λJ H1=>∃W:Nat->Nat->List V->Hp->Prop,(∃m,W 0 m [] H1)/\∀i m ys H,W i m ys H->
 (J.stop i H/\∀p,H p=none->Q (.ref p) (upd H p (.lst ys)))\/ (J.go i H/\∀x H',J.yld i H x H'->g x (List.replicate n none++σ) H' λσ2 H2=>σ2.drop n=σ/\tt σ2 H2 λb H3=>
  if b=true then te σ2 H3 λy H4=>ys.length<sizeLine/\∃m',m'<m/\W (i+1) m' (ys++ [y]) H4 else∃m',m'<m/\W (i+1) m' ys H3)
theorem HOk.adopt {H:Hp}(x:HOk P w H h)(hn:H a=none)(new:ObjOk P w (upd H a o) h a o):HOk P w (upd H a o) h:=λb u e=>by
 by_cases hb:b=a
 ·subst hb; rw [ag0] at e; cases e; exact new
 ·rw [aj0 hb] at e
  exact(x b u e).stay (λc v _ q=>q) (λc q=>by rw [aj0 (ah0 q hn)]; exact q) λc xs q=>by rw [aj0 (ah0 q hn)]; exact q
section
variable {X:Cx}{scope:Scope}{own:List Str}{elt tg iter:Expr}{ifs:List Expr}{pos:Pos}{wi:TI}{g:TG}{tt:TT}{te:TE}
theorem jX0 {Q:VK}{tn:Nat->Heap->Prop}{RR:Value->Addr->Result->Shared->Prop}{E:Value->Shared->Prop}(hc:X.calm=true)(ck:CompOk scope own X.N X.env.scope)
  (hg:∀C s₂ H₂ fp,PG (blk X (own++hide own X.N) scope C s₂ H₂ fp) tg g) (ht:∀C s₂ H₂ fp,PIf (blk X (own++hide own X.N) scope C s₂ H₂ fp) ifs tt) (he:∀C s₂ H₂ fp,PE (blk X (own++hide own X.N) scope C s₂ H₂ fp) elt te)
  (I2:Inv X pins σ H₂ s₂) (T:Turn X.prog X.w X.K tg J fp it tn) (st2:tn 0 s₂.heap) (f2:∀b∈fp,FpOk X pins H₂ b)
  (hw:∃W:Nat->Nat->List V->Hp->Prop,(∃m,W 0 m [] H₂)/\∀i m ys H,W i m ys H->
   (J.stop i H/\∀p,H p=none->Q (.ref p) (upd H p (.lst ys)))\/ (J.go i H/\∀x H',J.yld i H x H'->g x (List.replicate own.length none++σ) H' λσ2 H2=>σ2.drop own.length=σ/\tt σ2 H2 λb H3=>
    if b=true then te σ2 H3 λy H4=>ys.length<sizeLine/\∃m',m'<m/\W (i+1) m' (ys++ [y]) H4 else∃m',m'<m/\W (i+1) m' ys H3))
  (hRR:∀D C s' H' m',Inv X pins σ H' s'->H' C=none->s₂.heap.objs.size<=C->s'.heap.Ns C m'->Q (.ref D) H'->RR (.ref D) C (.ok .next) s'):
  wpAny (model X.prog X.w) X.A (newList []) (λacc s₃=>wpAny (model X.prog X.w) X.A (newFunctionEnv scope X.env.globals (cE0 X.env scope.names []) [] X.env.qual none .none (some X.env)) (λcenv s₄=>
   codeAny (model X.prog X.w) X.A (.compStart (.ListComp elt [⟨tg,iter,ifs,0⟩] scope pos) 0 (.ref it) acc {cenv with scope:=relabel scope X.env}) (RR acc cenv.locals) s₄) E s₃) E s₂:=by
 obtain⟨W,⟨m0,w0⟩,turn⟩:=hw
 refine Ah1 (wpAny_newFunctionEnv ck.nocell (by intro y hy; simp at hy) (λh₁ hns₁ hsb₁=> ?_) ck.kind)
 dsimp only at hns₁ hsb₁ ⊢
 generalize hH2:s₂.heap.push {cls:=.type "list",dict:=none,data:=.seq ([]:List Value).toArray}=P2 at hns₁ hsb₁ ⊢
 have hCs:P2.objs.size=s₂.heap.objs.size+1:=by rw [<- hH2,Af6]
 have hDC:s₂.heap.objs.size≠P2.objs.size:=by rw [hCs]; exact Ad4 (Al8 _)
 have hCle:s₂.heap.objs.size<=P2.objs.size:=by rw [hCs]; exact Av2 _
 have below:∀b,b<s₂.heap.objs.size->b≠P2.objs.size:=λb hb=>by rw [hCs]; exact Ad4 (Am9 hb)
 have old:∀b o,s₂.heap.get? b=some o->h₁.get? b=some o:=λb o e=>hsb₁.extBut b o (below b (Ab6 e)) (Aa7 _ (hH2▸Aa7 _ e))
 have hacc:h₁.get? s₂.heap.objs.size=some {cls:=.type "list",dict:=none,data:=.seq ([]:List Value).toArray}:=hsb₁.extBut _ _ hDC (Aa7 _ (hH2▸Ab7 _ rfl))
 have hfo:∀b∈fp,b<s₂.heap.objs.size:=λb hb=>by
  obtain⟨o,e,_⟩:=T.obj _ _ st2 b hb
  exact Ab6 e
 have I1:Inv (blk X (own++hide own X.N) scope P2.objs.size s₂ H₂ fp) [(s₂.heap.objs.size,{cls:=.type "list",dict:=none,data:=.seq ([]:List Value).toArray})] (List.replicate own.length none++σ) H₂ {s₂ with heap:=h₁,toks:=s₂.toks+([]:List (Str × Value)).length}:=
  py0 I2 ck f2 hfo hCle (Ab1 _) hDC old (by simpa using hns₁) hacc (λv z=>nomatch z)
 have stat:∀{H':Hp} {oD:Obj},(∀b∈fp,H' b=none)->∀b∈fp,FpOk (blk X (own++hide own X.N) scope P2.objs.size s₂ H₂ fp) [(s₂.heap.objs.size,oD)] H' b:=λ{H' oD} hn b hb=>by
  obtain⟨_,q1,q2,q3,q4,q5⟩:=f2 b hb
  refine⟨hn b hb,below b (hfo b hb),λz=> ?_,.inl hb,λx c h=>q4 x c (cd0 I2 ck h),λp hp z=> ?_⟩
  ·rcases Ab2.mp (I2.stkSub b z) with e|e
   ·exact q1 e
   ·exact q2 e
  ·have e:p=(s₂.heap.objs.size,oD):=by simpa [blk] using hp
   rw [e] at z
   exact absurd (hfo b hb) (by rw [<- z]; exact Ai6 _)
 have loop:codeAny (model X.prog X.w) X.A (.compLoop (.ListComp elt [⟨tg,iter,ifs,0⟩] scope pos) 0 (.ref it) (.ref s₂.heap.objs.size) (compEnvC scope (cE0 X.env scope.names []) P2.objs.size X.env))
   (RR (.ref s₂.heap.objs.size) P2.objs.size) {s₂ with heap:=h₁,toks:=s₂.toks+([]:List (Str × Value)).length}:=by
  refine gD0 (λn s'=>∃i ys its k H',Inv (blk X (own++hide own X.N) scope P2.objs.size s₂ H₂ fp) [(s₂.heap.objs.size,{cls:=.type "list",data:=.seq its k})] (List.replicate own.length none++σ) H' s'/\tn i s'.heap/\(∀b∈fp,H' b=none)/\Vals ys its.toList/\ys.length<=sizeLine/\W i n ys H') ?_ m0
   ⟨0,[],#[],0,H₂,I1,T.keep _ _ _ st2 (λb _ o e=>old b o e),λb hb=>(f2 b hb).1,.nil,Ae5 _,w0⟩
  rintro n s3 ⟨i,ys,its,k,H3,I3,st3,fr3,rv,hz,w3⟩
  rcases turn i n ys H3 w3 with⟨stop,q⟩|⟨go,step⟩
  ·refine thn (T.done (blk X (own++hide own X.N) scope P2.objs.size s₂ H₂ fp) rfl rfl rfl hc i _ s3 _ H3 _ I3 (stat fr3) st3 stop) λr s4 ⟨hr,I4⟩=> ?_
   subst hr
   obtain⟨hoD,hDn,_,hDfs,_⟩:=I4.pin (s₂.heap.objs.size,{cls:=.type "list",data:=.seq its k}) (by simp [blk])
   have hDn:H3 s₂.heap.objs.size=none:=hDn
   obtain⟨m',hn',_⟩:=I4.loc
   have hCn:H3 P2.objs.size=none:=I4.free
   have un:Un (frs X.stack) fp H₂ (upd H3 s₂.heap.objs.size (.lst ys)) s₂.heap s4.heap:=by
    have b:=I4.base
    refine⟨b.keep,b.slot,λc o e n hx=> ?_,b.there,λc xs e=> ?_,λc o u e=> ?_,λc ps e=> ?_⟩
    ·rw [aj0 (Ad4 (Ab6 e))]; exact b.free c o e n hx
    ·have q:=b.tups c xs e
     rw [aj0 (ah0 q hDn)]; exact q
    ·have q:=b.frzs c o u e
     rw [aj0 (ah0 q hDn)]; exact q
    ·obtain⟨mo,q⟩:=b.tbls c ps e
     exact⟨mo,by rw [aj0 (ah0 q hDn)]; exact q⟩
   have hok:HOk X.prog X.w (upd H3 s₂.heap.objs.size (.lst ys)) s4.heap:=HOk.adopt I4.hok hDn ⟨hz,its.toList,k,rv,by simpa using hoD⟩
   have I5:Inv X pins σ (upd H3 s₂.heap.objs.size (.lst ys)) s4:=I2.call' (ch:=fp) I4.os un hok I4.bare λb hb=>by
    obtain⟨_,q1,q2,q3,q4,q5⟩:=f2 b hb
    exact⟨q3,q1,q4,q5⟩
   exact hRR _ _ s4 _ m' I5 (by rw [aj0 (Ne.symm hDC)]; exact hCn) hCle hn' (q _ hDn)
  ·refine thn (T.item (blk X (own++hide own X.N) scope P2.objs.size s₂ H₂ fp) rfl rfl rfl hc i _ s3 _ H3 _ I3 (stat fr3) st3 go) λr s4 ⟨u,hr,h4⟩=> ?_
   subst hr
   refine thn h4 λ_ s5 ⟨x,H5,I5,r5,y5,st5,fr5⟩=> ?_
   have I5':=I5.pinned (stat fr5) (T.obj _ _ st5)
   refine thn (hg _ _ _ _ _ s5 _ H5 x u _ I5' r5 (step x H5 y5)) λ_ s6 ⟨σ6,H6,I6,hσ,q6⟩=> ?_
   refine thn (ht _ _ _ _ _ s6 σ6 H6 _ I6 q6) λb s7 ⟨H7,I7,q7⟩=> ?_
   have wk:∀{pl:List (Addr × Obj)} {H7:Hp} {s7:Shared},Inv (blk X (own++hide own X.N) scope P2.objs.size s₂ H₂ fp) pl σ6 H7 s7->Inv (blk X (own++hide own X.N) scope P2.objs.size s₂ H₂ fp) pl (List.replicate own.length none++σ) H7 s7:=λ{pl H7 s7} J=>by
    refine J.weak ?_ λj v e=> ?_
    ·have e1:=J.len
     have e2:=I5.len
     rw [e1,e2]
    ·have hj:¬j<own.length:=λhj=>by
      rw [Ab3 (by simpa using hj),Af5,if_pos hj] at e
      cases e
     rw [Ab9 (by simpa using hj),Af3,<- hσ,List.getElem?_drop] at e
     rw [<- e]
     congr 1
     omega
   have pfp:∀p∈eI0 fp s5.heap,p.1<s₂.heap.objs.size:=λp hp=>hfo _ (gE0 hp).1
   cases b with
   |false=>
    rw [if_neg Ab4] at q7
    rw [if_neg Ab4]
    obtain⟨m',hm,w7⟩:=q7
    refine⟨m',hm,i+1,ys,its,k,H7,wk I7.unpinned,T.keep _ _ _ st5 λb hb o e=>(I7.pin (b,o) (Ac1 _ (Ac1 _ (ck0 hb e)))).1,λb hb=> ?_,rv,hz,w7⟩
    obtain⟨o,e,d⟩:=T.obj _ _ st5 b hb
    exact(I7.pin (b,o) (Ac1 _ (Ac1 _ (ck0 hb e)))).2.1
   |true=>
    rw [if_pos rfl] at q7
    rw [if_pos rfl]
    refine thn (he _ _ _ _ _ s7 σ6 H7 _ I7 q7) λu8 s8 ⟨y,H8,I8,r8,hl8,m',hm,w8⟩=> ?_
    obtain⟨hoD,hDn,_,hDfs,_⟩:=I8.pin (s₂.heap.objs.size,{cls:=.type "list",data:=.seq its k}) (by simp [blk])
    have hDn:H8 s₂.heap.objs.size=none:=hDn
    have hDfs:s₂.heap.objs.size∉frs X.stack:=hDfs
    have hits:its.size=ys.length:=by rw [rv.length]; simp
    refine wpAny_list_append_plain (hsz:=by rw [hits]; exact hz) ⟨k,hoD⟩ λh9 hpl hsb=> ?_
    obtain⟨k9,e9⟩:=hpl
    have I8a:Inv (blk X (own++hide own X.N) scope P2.objs.size s₂ H₂ fp) (eI0 fp s5.heap) σ6 H8 s8:=I8.pins_of λp hp=>I8.pin p (Ac1 _ (Ac1 _ hp))
    have I9:Inv (blk X (own++hide own X.N) scope P2.objs.size s₂ H₂ fp) (eI0 fp s5.heap) σ6 H8 {s8 with heap:=h9}:=I8a.turned (t':=s8.toks) (it:=s₂.heap.objs.size) (λb o hb e=>(hsb.2 b hb).trans e) hDn hDC (.inr (Ab1 _))
     (λx c h z=>by
      obtain⟨v,o,ho,_⟩:=I2.cell x c (cd0 I2 ck h)
      exact absurd (Ab6 ho) (by rw [z]; exact Ai6 _))
     (λp hp z=>absurd (pfp p (by simpa [blk] using hp)) (by rw [z]; exact Ai6 _))
    have keepfp:∀b∈fp,∀o,s5.heap.get? b=some o->h9.get? b=some o:=λb hb o e=>(I9.pin (b,o) (Ac1 _ (ck0 hb e))).1
    have frfp:∀b∈fp,H8 b=none:=λb hb=>by
     obtain⟨o,e,d⟩:=T.obj _ _ st5 b hb
     exact(I9.pin (b,o) (Ac1 _ (ck0 hb e))).2.1
    have I10:Inv (blk X (own++hide own X.N) scope P2.objs.size s₂ H₂ fp) [(s₂.heap.objs.size,{cls:=.type "list",data:=.seq (its.push u8) k9})] σ6 H8 {s8 with heap:=h9}:=I9.pins_of λp hp=>by
     have e:p=(s₂.heap.objs.size,{cls:=.type "list",data:=.seq (its.push u8) k9}):=by simpa using hp
     subst e
     exact⟨e9,hDn,hDC,hDfs,λv z=>nomatch z⟩
    refine⟨m',hm,i+1,ys++ [y],its.push u8,k9,H8,wk I10,T.keep _ _ _ st5 keepfp,frfp,?_,?_,w8⟩
    ·rw [Array.toList_push]
     exact Vals.append rv (.cons r8 .nil)
    ·rw [Aa5,Ab5]
     exact hl8
 exact codeAny_compStart_list loop (T.self X.A 0 _ _ _ (T.keep _ _ _ st2 λb _ o e=>old b o e) loop)
theorem ej0 (hc:X.calm=true)(ck:er0 scope own X.N X.env.scope=true)(hi:PI X tg iter wi)
  (hg:∀C s₂ H₂ fp,PG (blk X (own++hide own X.N) scope C s₂ H₂ fp) tg g) (ht:∀C s₂ H₂ fp,PIf (blk X (own++hide own X.N) scope C s₂ H₂ fp) ifs tt) (he:∀C s₂ H₂ fp,PE (blk X (own++hide own X.N) scope C s₂ H₂ fp) elt te)
  (hs:∀x,foldedSetIterable iter X.env x=pure x:=by intro _; rfl):PE X (.ListComp elt [⟨tg,iter,ifs,0⟩] scope pos) (me0 own.length wi g tt te):=by
 intro pins s σ H Q I h
 have ck:=gS0 ck
 rw [eval_ListComp]
 refine wpAny_comprehension_free (use:=none) rfl hs (dK0 (dY0 I ck)) ck.kind ck.loc (thn (hi pins s σ H _ I h) λv s1 h1=>thn h1 λitv s2 h2=> ?_)
 obtain⟨it,fp,tn,J,H2,e,I2,T,st2,f2,hw⟩:=h2
 subst e
 refine jX0 (RR:=λacc C=>compPost (model X.prog X.w) X.A X.xe none (EP X pins σ Q) acc C) hc ck hg ht he I2 T st2 f2 hw ?_
 intro D C s' H' m' I' hCn hC hn q
 refine⟨m',hn,λh' hsb=>⟨.ref D,H',?_,rfl,q⟩⟩
 refine I'.turned (t':=s'.toks) (it:=C) (λb o hb e=>(hsb.2 b hb).trans e) hCn (Al7 (Ad1 I2.lt hC)) (.inr (Ac6 I2.sz hC)) (λx c e z=> ?_) λp hp z=> ?_
 ·obtain⟨v,o,ho,_⟩:=I2.cell x c e
  exact absurd (Ab6 ho) (by rw [z]; exact An5.mpr hC)
 ·exact absurd (Ab6 (I2.pin p hp).1) (by rw [z]; exact An5.mpr hC)
theorem pu0 {py spos:Pos}(hN:X.N.Nodup)(hiN:X.N[i]?=some y)(hy:Loc X.env.scope y)(hc:X.calm=true)(ck:er0 scope own X.N X.env.scope=true)(hi:PI X tg iter wi)
  (hg:∀C s₂ H₂ fp,PG (blk X (own++hide own X.N) scope C s₂ H₂ fp) tg g) (ht:∀C s₂ H₂ fp,PIf (blk X (own++hide own X.N) scope C s₂ H₂ fp) ifs tt) (he:∀C s₂ H₂ fp,PE (blk X (own++hide own X.N) scope C s₂ H₂ fp) elt te)
  (hsw:swapsWith (.ListComp elt [⟨tg,iter,ifs,0⟩] scope pos) (some (.Name y py)) spos.line X.env=pure true)
  (hs:∀x,foldedSetIterable iter X.env x=pure x:=by intro _; rfl) (hf:X.fn y=true\/ X.env.scope.names.lookup y=some .local:=by first|exact .inl rfl|exact .inr rfl|assumption):
  PS X (.Assign [.Name y py] (.ListComp elt [⟨tg,iter,ifs,0⟩] scope pos) spos) (tAsg (me0 own.length wi g tt te) (cr0 i)):=by
 intro pins s σ H D I h
 have ck:=gS0 ck
 rw [exec_Assign_Name_used _ _ _ _ hsw]
 refine Aa0 (wpAny_standAt (Aa0 ?_))
 show wpAny _ X.A (do let _<- comprehension (.ListComp elt [⟨tg,iter,ifs,0⟩] scope pos) scope X.env _ (newList []) false (eval iter X.env) (some (assign (.Name y py) X.env))) _ _ s
 refine Aa0 (Aj7 (wpAny_comprehension_free (use:=some (assign (.Name y py) X.env)) (Q:=λ_ s'=>SP X pins D .next s') rfl hs (dK0 (dY0 I ck)) ck.kind ck.loc
  (thn (hi pins s σ H _ I h) λv s1 h1=>thn h1 λitv s2 h2=> ?_)) (λ_ s' hq=>Aa8 (Aa8 hq)) λ_ _ e=>e)
 obtain⟨it,fp,tn,J,H2,e,I2,T,st2,f2,hw⟩:=h2
 subst e
 refine jX0 (Q:=λv H'=>D.nx (σ.set i (some v)) H') (RR:=λacc C=>compPost (model X.prog X.w) X.A X.xe (some (assign (.Name y py) X.env)) (λ_ s'=>SP X pins D .next s') acc C) hc ck hg ht he I2 T st2 f2 hw ?_
 intro Dd C s' H' m' I' hCn hC hn q
 have neL:C≠X.env.locals:=Al7 (Ad1 I2.lt hC)
 have neC:∀x c,X.env.cells.lookup x=some c->c≠C:=λx c e z=>by
  obtain⟨v,o,ho,_⟩:=I2.cell x c e
  exact absurd (Ab6 ho) (by rw [z]; exact An5.mpr hC)
 show wpAny _ X.A (assign (.Name y py) X.env (.ref Dd)) _ _ s'
 refine wpAny_assign_Name (gY0 I' hN hiN hy (v:=.ref Dd) rfl (λs'' I'' ⟨a,hsb,ha⟩=> ?_) hf)
 refine⟨m',hn.sameBut hsb ?_,λh' hsb'=>⟨_,H',?_,q⟩⟩
 ·rcases ha with e|e
  ·rw [e]; exact neL
  ·exact Ne.symm (neC y a e)
 ·refine I''.turned (t':=s''.toks) (it:=C) (λb o hb e=>(hsb'.2 b hb).trans e) hCn neL (.inr (Ac6 I2.sz hC)) neC λp hp z=> ?_
  exact absurd (Ab6 (I2.pin p hp).1) (by rw [z]; exact An5.mpr hC)
end
end L2
namespace L2.BD
inductive T where
 |non|bl (b:Bool)|int (i:Int)|str (x:Str)
 |tup (ts:List T)|lst (ts:List T)|dct (kvs:List (Str × T))|ins (C:Addr) (fs:List (Str × T))|exc (C:Addr)|scr (ns:List Int)
mutual
/-- v stands for the tree; the lists,dicts and instances in it are frozen (F) -/
inductive Rp (F:Addr->Prop) (H:Hp):V->T->Prop
 |non:Rp F H .non .non
 |bl (b:Bool):Rp F H (.bl b) (.bl b)
 |int (i:Int):Rp F H (.int i) (.int i)
 |str (x:Str):Rp F H (.str x) (.str x)
 |tup {a:Addr} {xs:List V} {ts:List T} (h:H a=some (.tup xs)) (r:Rps F H xs ts):Rp F H (.ref a) (.tup ts)
 |lst {a:Addr} {xs:List V} {ts:List T} (f:F a) (h:H a=some (.lst xs)) (r:Rps F H xs ts):Rp F H (.ref a) (.lst ts)
 |dct {a:Addr} {o:Obj} {kvs:List (Key × V)} {kts:List (Str × T)} (f:F a) (h:H a=some (.frz o (.dK kvs))) (r:Rpk F H kvs kts):Rp F H (.ref a) (.dct kts)
 |ins {a C dx:Addr} {fs:List (Str × V)} {fts:List (Str × T)} (f:F a) (h:H a=some (.ins C dx fs)) (r:Rpf F H fs fts):Rp F H (.ref a) (.ins C fts)
 |exc {a C:Addr} {o:Obj} (f:F a) (h:H a=some (.frz o (.ext λ_=>True))) (hc:o.cls=.ref C):Rp F H (.ref a) (.exc C)
 |scr {a:Addr} {o:Obj} {ns:List Int} (f:F a) (h:H a=some (.frz o (.lst (ns.map V.int)))):Rp F H (.ref a) (.scr ns)
inductive Rps (F:Addr->Prop) (H:Hp):List V->List T->Prop
 |nil:Rps F H [] []
 |cons {v:V} {t:T} {vs:List V} {ts:List T} (h:Rp F H v t) (r:Rps F H vs ts):Rps F H (v::vs) (t::ts)
inductive Rpk (F:Addr->Prop) (H:Hp):List (Key × V)->List (Str × T)->Prop
 |nil:Rpk F H [] []
 |cons {k:Str} {v:V} {t:T} {vs:List (Key × V)} {ts:List (Str × T)} (h:Rp F H v t) (r:Rpk F H vs ts):Rpk F H ((Sum.inr k,v)::vs) ((k,t)::ts)
inductive Rpf (F:Addr->Prop) (H:Hp):List (Str × V)->List (Str × T)->Prop
 |nil:Rpf F H [] []
 |cons {k:Str} {v:V} {t:T} {vs:List (Str × V)} {ts:List (Str × T)} (h:Rp F H v t) (r:Rpf F H vs ts):Rpf F H ((k,v)::vs) ((k,t)::ts)
end
structure Keep (F:Addr->Prop)(H:Hp)(F':Addr->Prop)(H':Hp):Prop where
 sub:∀a,F a->F' a
 frz:∀a o,F a->H a=some o->H' a=some o
 tup:∀a xs,H a=some (.tup xs)->H' a=some (.tup xs)
theorem Keep.refl {F:Addr->Prop}:Keep F H F H:=⟨λ_ h=>h,λ_ _ _ h=>h,λ_ _ h=>h⟩
theorem Keep.trans {F F1 F2:Addr->Prop}(a:Keep F H F1 H1)(b:Keep F1 H1 F2 H2):Keep F H F2 H2:=
 ⟨λx h=>b.sub x (a.sub x h),λx o f h=>b.frz x o (a.sub x f) (a.frz x o f h),λx xs h=>b.tup x xs (a.tup x xs h)⟩
mutual
theorem Rp.keep {F F':Addr->Prop}(k:Keep F H F' H'):∀{v:V} {t:T},Rp F H v t->Rp F' H' v t
 |_,_,.non=> .non
 |_,_,.bl b=> .bl b
 |_,_,.int i=> .int i
 |_,_,.str x=> .str x
 |_,_,.tup h r=> .tup (k.tup _ _ h) (Rps.keep k r)
 |_,_,.lst f h r=> .lst (k.sub _ f) (k.frz _ _ f h) (Rps.keep k r)
 |_,_,.dct f h r=> .dct (k.sub _ f) (k.frz _ _ f h) (Rpk.keep k r)
 |_,_,.ins f h r=> .ins (k.sub _ f) (k.frz _ _ f h) (Rpf.keep k r)
 |_,_,.exc f h c=> .exc (k.sub _ f) (k.frz _ _ f h) c
 |_,_,.scr f h=> .scr (k.sub _ f) (k.frz _ _ f h)
theorem Rps.keep {F F':Addr->Prop}(k:Keep F H F' H'):∀{v:List V} {t:List T},Rps F H v t->Rps F' H' v t
 |_,_,.nil=> .nil
 |_,_,.cons h r=> .cons (Rp.keep k h) (Rps.keep k r)
theorem Rpk.keep {F F':Addr->Prop}(k:Keep F H F' H'):∀{v:List (Key × V)} {t:List (Str × T)},Rpk F H v t->Rpk F' H' v t
 |_,_,.nil=> .nil
 |_,_,.cons h r=> .cons (Rp.keep k h) (Rpk.keep k r)
theorem Rpf.keep {F F':Addr->Prop}(k:Keep F H F' H'):∀{v:List (Str × V)} {t:List (Str × T)},Rpf F H v t->Rpf F' H' v t
 |_,_,.nil=> .nil
 |_,_,.cons h r=> .cons (Rp.keep k h) (Rpf.keep k r)
end
inductive Rp1 (F:Addr->Prop) (H:Hp):Addr->T->Prop
 |lst {a:Addr} {xs:List V} {ts:List T} (h:H a=some (.lst xs)) (r:Rps F H xs ts):Rp1 F H a (.lst ts)
 |dct {a:Addr} {kvs:List (Key × V)} {kts:List (Str × T)} (h:H a=some (.dK kvs)) (r:Rpk F H kvs kts):Rp1 F H a (.dct kts)
 |ins {a C dx:Addr} {fs:List (Str × V)} {fts:List (Str × T)} (h:H a=some (.ins C dx fs)) (r:Rpf F H fs fts):Rp1 F H a (.ins C fts)
theorem Rp1.there {F:Addr->Prop}{H:Hp}(h:Rp1 F H a t):∃o,H a=some o:=by
 cases h<;>exact⟨_,by assumption⟩
theorem Rp1.keep {F F':Addr->Prop}{H H':Hp}(k:Keep F H F' H')(e:H' a=H a)(h:Rp1 F H a t):Rp1 F' H' a t:=by
 cases h with
 |lst h r=>exact .lst (e.trans h) (r.keep k)
 |dct h r=>exact .dct (e.trans h) (r.keep k)
 |ins h r=>exact .ins (e.trans h) (r.keep k)
def isD:T->Bool
 | .dct _=>true
 |_=>false
theorem Rp1.frozen {F:Addr->Prop}(f:F a)(h:Rp1 F H a t)(nd:isD t=false):Rp F H (.ref a) t:=by
 cases h with
 |lst h r=>exact .lst f h r
 |dct h r=>cases nd
 |ins h r=>exact .ins f h r
inductive Rb (F:Addr->Prop) (H:Hp):V->T->Prop
 |v {v:V} {t:T} (h:Rp F H v t):Rb F H v t
 |o {a:Addr} {t:T} (h:Rp1 F H a t):Rb F H (.ref a) t
abbrev Rbs (F:Addr->Prop)(H:Hp):List V->List T->Prop:=Paired (Rb F H)
section
variable {F:Addr->Prop}{H:Hp}{v:V}
theorem Rb.int_ (h:Rb F H v (.int i)):v=.int i:=by
 cases h with
 |v h=>cases h; rfl
 |o h=>cases h
theorem Rb.bl_ (h:Rb F H v (.bl i)):v=.bl i:=by
 cases h with
 |v h=>cases h; rfl
 |o h=>cases h
theorem Rb.str_ (h:Rb F H v (.str i)):v=.str i:=by
 cases h with
 |v h=>cases h; rfl
 |o h=>cases h
theorem Rb.non_ (h:Rb F H v .non):v=.non:=by
 cases h with
 |v h=>cases h; rfl
 |o h=>cases h
theorem Rb.tup_ (h:Rb F H v (.tup ts)):∃a xs,v=.ref a/\H a=some (.tup xs)/\Rps F H xs ts:=by
 cases h with
 |v h=>cases h with|tup h r=>exact⟨_,_,rfl,h,r⟩
 |o h=>cases h
theorem Rb.lst_ (h:Rb F H v (.lst ts)):∃a xs,v=.ref a/\H a=some (.lst xs)/\Rps F H xs ts:=by
 cases h with
 |v h=>cases h with|lst f h r=>exact⟨_,_,rfl,h,r⟩
 |o h=>cases h with|lst h r=>exact⟨_,_,rfl,h,r⟩
theorem Rb.scr_ (h:Rb F H v (.scr ns)):∃a o,v=.ref a/\H a=some (.frz o (.lst (ns.map V.int))):=by
 cases h with
 |v h=>cases h with|scr f h=>exact⟨_,_,rfl,h⟩
 |o h=>cases h
theorem Rb.dct_ (h:Rb F H v (.dct ts)):∃a xs,v=.ref a/\Rd H a (.dK xs)/\Rpk F H xs ts:=by
 cases h with
 |v h=>cases h with|dct f h r=>exact⟨_,_,rfl,.inr ⟨_,h⟩,r⟩
 |o h=>cases h with|dct h r=>exact⟨_,_,rfl,.inl h,r⟩
theorem Rb.ins_ (h:Rb F H v (.ins C ts)):∃a dx xs,v=.ref a/\H a=some (.ins C dx xs)/\Rpf F H xs ts:=by
 cases h with
 |v h=>cases h with|ins f h r=>exact⟨_,_,_,rfl,h,r⟩
 |o h=>cases h with|ins h r=>exact⟨_,_,_,rfl,h,r⟩
end
section
variable {F:Addr->Prop}{H:Hp}
theorem Rps.length:∀{xs:List V} {ts:List T},Rps F H xs ts->xs.length=ts.length
 |_,_,.nil=>rfl
 |_,_,.cons _ r=>by simp [Rps.length r]
theorem Rps.get:∀{xs:List V} {ts:List T} {i:Nat} {t:T},Rps F H xs ts->ts[i]?=some t->∃x,xs[i]?=some x/\Rp F H x t
 |_,_,_,_,.nil,e=>by simp at e
 |_,_,0,_,.cons h _,e=>by simp at e; subst e; exact⟨_,rfl,h⟩
 |_,_,i+1,t,.cons _ r,e=>by
  obtain⟨x,h1,h2⟩:=Rps.get (i:=i) (t:=t) r (by simpa using e)
  exact⟨x,by simpa using h1,h2⟩
theorem Rps.append:∀{xs ys:List V} {ts us:List T},Rps F H xs ts->Rps F H ys us->Rps F H (xs++ys) (ts++us)
 |_,_,_,_,.nil,s=>s
 |_,_,_,_,.cons h r,s=> .cons h (Rps.append r s)
theorem Rps.take:∀{xs:List V} {ts:List T} (n:Nat),Rps F H xs ts->Rps F H (xs.take n) (ts.take n)
 |_,_,0,_=> .nil
 |_,_,_+1,.nil=> .nil
 |_,_,n+1,.cons h r=> .cons h (Rps.take n r)
theorem Rps.drop:∀{xs:List V} {ts:List T} (n:Nat),Rps F H xs ts->Rps F H (xs.drop n) (ts.drop n)
 |_,_,0,r=>r
 |_,_,_+1,.nil=> .nil
 |_,_,n+1,.cons _ r=>Rps.drop n r
theorem Rps.one (h:Rps F H xs [t]):∃x,xs=[x]/\Rp F H x t:=by
 cases h with|cons h r=>cases r; exact⟨_,rfl,h⟩
theorem Rps.two (h:Rps F H xs [t,u]):∃x y,xs=[x,y]/\Rp F H x t/\Rp F H y u:=by
 cases h with|cons h r=>cases r with|cons h' r=>cases r; exact⟨_,_,rfl,h,h'⟩
theorem Rbs.one (h:Rbs F H xs [t]):∃x,xs=[x]/\Rb F H x t:=by
 cases h with|cons h r=>cases r; exact⟨_,rfl,h⟩
theorem Rbs.two (h:Rbs F H xs [t,u]):∃x y,xs=[x,y]/\Rb F H x t/\Rb F H y u:=by
 cases h with|cons h r=>cases r with|cons h' r=>cases r; exact⟨_,_,rfl,h,h'⟩
theorem Rpf.look:∀{fs:List (Str × V)} {ts:List (Str × T)} {f:Str} {t:T},Rpf F H fs ts->ts.lookup f=some t->∃v,fs.lookup f=some v/\Rp F H v t
 |_,_,_,_,.nil,e=>by simp at e
 |_,_,f,t,.cons (k:=k) h r,e=>by
  rw [Ac5] at e
  rw [Ac5]
  cases q:f==k with
  |true=>rw [q] at e; cases e; exact⟨_,rfl,h⟩
  |false=>rw [q] at e; exact Rpf.look r e
theorem Rpf.look_none:∀{fs:List (Str × V)} {ts:List (Str × T)} {f:Str},Rpf F H fs ts->ts.lookup f=none->fs.lookup f=none
 |_,_,_,.nil,_=>rfl
 |_,_,f,.cons (k:=k) h r,e=>by
  rw [Ac5] at e
  rw [Ac5]
  cases q:f==k with
  |true=>rw [q] at e; cases e
  |false=>rw [q] at e; exact Rpf.look_none r e
theorem Rpf.length:∀{xs:List (Str × V)} {ts:List (Str × T)},Rpf F H xs ts->xs.length=ts.length
 |_,_,.nil=>rfl
 |_,_,.cons _ r=>by simp [Rpf.length r]
theorem Rpk.length:∀{xs:List (Key × V)} {ts:List (Str × T)},Rpk F H xs ts->xs.length=ts.length
 |_,_,.nil=>rfl
 |_,_,.cons _ r=>by simp [Rpk.length r]
end
inductive Sl where
 |un|sh (t:T)|ow (t:T)|fix (v:V) (t:T)
abbrev En:=List Sl
structure Fx where
 H₀:Hp
 F₀:Addr->Prop
 me:Addr->Prop:=λ_=>True
 xk:Addr->Hp->Prop:=λ_ _=>False
def isI:T->Bool
 | .ins _ _=>true
 |_=>false
structure Rel (Y:Fx)(F:Addr->Prop)(ε:En)(σ:St)(H:Hp):Prop where
 len:ε.length=σ.length
 sh:∀(i:Nat) t,ε[i]?=some (.sh t)->∃v,σ[i]?=some (some v)/\Rp F H v t
 ow:∀(i:Nat) t,ε[i]?=some (.ow t)->∃a,σ[i]?=some (some (.ref a))/\¬F a/\Y.H₀ a=none/\Rp1 F H a t
 inj:∀(i j:Nat) t u a,i≠j->ε[i]?=some (.ow t)->ε[j]?=some (.ow u)->σ[i]?=some (some (.ref a))->σ[j]?=some (some (.ref a))->False
 same:∀b o,Y.H₀ b=some o->H b=some o
 sub:∀a,Y.F₀ a->F a
 new:∀a,F a->Y.F₀ a\/ Y.H₀ a=none
 trk:∀a,F a->∃o,H a=some o
 me:∀(i:Nat) t a,ε[i]?=some (.ow t)->isI t=true->σ[i]?=some (some (.ref a))->Y.me a
 fx:∀(i:Nat) v t,ε[i]?=some (.fix v t)->σ[i]?=some (some v)/\Rp F H v t
structure Mono (F:Addr->Prop)(H:Hp)(F':Addr->Prop)(H':Hp):Prop where
 ext:∀b o,H b=some o->H' b=some o
 sub:∀a,F a->F' a
 new:∀a,F' a->F a\/ H a=none
 trk:∀a,F' a->∃o,H' a=some o
theorem Mono.keep {F F':Addr->Prop}(m:Mono F H F' H'):Keep F H F' H':=⟨m.sub,λa o _ h=>m.ext a o h,λa xs h=>m.ext a _ h⟩
theorem Mono.free {F F':Addr->Prop}{H H':Hp}(m:Mono F H F' H')(h:H' a=none):H a=none:=by
 cases q:H a with
 |none=>rfl
 |some o=>rw [m.ext a o q] at h; cases h
theorem Mono.trans {F F1 F2:Addr->Prop}(a:Mono F H F1 H1)(b:Mono F1 H1 F2 H2):Mono F H F2 H2:=
 ⟨λx o h=>b.ext x o (a.ext x o h),λx h=>b.sub x (a.sub x h),λx h=>(b.new x h).elim (a.new x) λz=> .inr (a.free z),b.trk⟩
theorem Mono.refl {F:Addr->Prop}{H:Hp}(t:∀a,F a->∃o,H a=some o):Mono F H F H:=⟨λ_ _ h=>h,λ_ h=>h,λ_ h=> .inl h,t⟩
theorem Rel.refl {F:Addr->Prop}(r:Rel Y F ε σ H):Mono F H F H:=.refl r.trk
theorem Mono.laid {F:Addr->Prop}{H:Hp}(t:∀a,F a->∃o,H a=some o)(hp:H p=none):Mono F H F (upd H p o):=by
 have e:∀b u,H b=some u->upd H p o b=some u:=λb u h=>by rw [aj0 (ah0 h hp)]; exact h
 exact⟨e,λ_ h=>h,λ_ h=> .inl h,λa h=>let ⟨u,q⟩:=t a h; ⟨u,e a u q⟩⟩
theorem Mono.freeze {F F':Addr->Prop}{H H':Hp}(m:Mono F H F' H')(n:H a=none)(t:∃o,H' a=some o):Mono F H (λb=>F' b\/ b=a) H':=
 ⟨m.ext,λx h=> .inl (m.sub x h),λx h=>h.elim (m.new x) λe=> .inr (e▸n),λx h=>h.elim (m.trk x) λe=>e▸t⟩
theorem Keep.freeze {F:Addr->Prop}:Keep F H (λb=>F b\/ b=a) H:=⟨λ_ h=> .inl h,λ_ _ _ h=>h,λ_ _ h=>h⟩
theorem Rb.keep {F F':Addr->Prop}{H H':Hp}(m:Mono F H F' H'){v:V}{t:T}(h:Rb F H v t):Rb F' H' v t:=by
 cases h with
 |v h=>exact .v (h.keep m.keep)
 |o h=>
  obtain⟨o,q⟩:=h.there
  exact .o (h.keep m.keep ((m.ext _ o q).trans q.symm))
theorem Rel.mono {F F':Addr->Prop}(r:Rel Y F ε σ H)(m:Mono F H F' H'):Rel Y F' ε σ H' where
 len:=r.len
 sh:=λi t e=>let ⟨v,h1,h2⟩:=r.sh i t e; ⟨v,h1,h2.keep m.keep⟩
 ow:=λi t e=>by
  obtain⟨a,h1,h2,h3,h4⟩:=r.ow i t e
  obtain⟨o,q⟩:=h4.there
  refine⟨a,h1,λz=> ?_,h3,h4.keep m.keep ((m.ext _ o q).trans q.symm)⟩
  rcases m.new a z with z|z
  ·exact h2 z
  ·rw [z] at q; cases q
 inj:=r.inj
 same:=λb o h=>m.ext b o (r.same b o h)
 sub:=λa h=>m.sub a (r.sub a h)
 new:=λa h=>by
  rcases m.new a h with z|z
  ·exact r.new a z
  ·refine .inr ?_
   cases q:Y.H₀ a with
   |none=>rfl
   |some o=>rw [r.same a o q] at z; cases z
 trk:=m.trk
 me:=r.me
 fx:=λi v t e=>let ⟨h1,h2⟩:=r.fx i v t e; ⟨h1,h2.keep m.keep⟩
section
variable (Y:Fx)
def Tr (f:En->Option T):TE:=λσ H Q=>∃F ε t,Rel Y F ε σ H/\f ε=some t/\∀F' v H',Mono F H F' H'->Rp F' H' v t->Q v H'
def TrB (f:En->Option T):TE:=λσ H Q=>∃F ε t,Rel Y F ε σ H/\f ε=some t/\∀F' v H',Mono F H F' H'->Rb F' H' v t->Q v H'
def TrF (f:En->Option T):TE:=λσ H Q=>∃F ε t,Rel Y F ε σ H/\f ε=some t/\∀F' a H',Mono F H F' H'->H a=none->¬F' a->Rp1 F' H' a t->Q (.ref a) H'
def TrT (f:En->Option Bool):TT:=λσ H Q=>∃F ε b,Rel Y F ε σ H/\f ε=some b/\∀F' H',Mono F H F' H'->Q b H'
def TrA (f:En->Option (List T)):TA:=λσ H Q=>∃F ε ts,Rel Y F ε σ H/\f ε=some ts/\∀F' vs H',Mono F H F' H'->Rps F' H' vs ts->Q vs H'
def TrAB (f:En->Option (List T)):TA:=λσ H Q=>∃F ε ts,Rel Y F ε σ H/\f ε=some ts/\∀F' vs H',Mono F H F' H'->Rbs F' H' vs ts->Q vs H'
end
abbrev SE (X:Cx)(Y:Fx)(e:Expr)(f:En->Option T):Prop:=PE X e (Tr Y f)
abbrev BE (X:Cx)(Y:Fx)(e:Expr)(f:En->Option T):Prop:=PE X e (TrB Y f)
abbrev FE (X:Cx)(Y:Fx)(e:Expr)(f:En->Option T):Prop:=PE X e (TrF Y f)
abbrev QT (X:Cx)(Y:Fx)(e:Expr)(f:En->Option Bool):Prop:=PT X e (TrT Y f)
abbrev QW (X:Cx)(Y:Fx)(e:Expr)(f:En->Option Bool):Prop:=PW X e (TrT Y f)
abbrev SA (X:Cx)(Y:Fx)(es:List Expr)(f:En->Option (List T)):Prop:=PA X es (TrA Y f)
abbrev BA (X:Cx)(Y:Fx)(es:List Expr)(f:En->Option (List T)):Prop:=PA X es (TrAB Y f)
section
variable {X:Cx}{Y:Fx}{e a b:Expr}{pos:Pos}{f g:En->Option T}
theorem PE.imp {t t':TE}(h:PE X e t)(i:∀σ H Q,t' σ H Q->t σ H Q):PE X e t':=λpins s σ H Q I q=>h pins s σ H Q I (i σ H Q q)
theorem PT.imp {t t':TT}(h:PT X e t)(i:∀σ H Q,t' σ H Q->t σ H Q):PT X e t':=λpins s σ H Q I q=>h pins s σ H Q I (i σ H Q q)
theorem PW.imp {t t':TT}(h:PW X e t)(i:∀σ H Q,t' σ H Q->t σ H Q):PW X e t':=λwh pins s σ H Q I q=>h wh pins s σ H Q I (i σ H Q q)
theorem PA.imp {t t':TA}(h:PA X es t)(i:∀σ H Q,t' σ H Q->t σ H Q):PA X es t':=λp pins s σ H Q I q=>h p pins s σ H Q I (i σ H Q q)
theorem PS.imp {st:Stmt}{t t':TS}(h:PS X st t)(i:∀D σ H,t' D σ H->t D σ H):PS X st t':=λpins s σ H D I q=>h pins s σ H D I (i D σ H q)
theorem PSs.imp {st:List Stmt}{t t':TS}(h:PSs X st t)(i:∀D σ H,t' D σ H->t D σ H):PSs X st t':=λpins s σ H D I q=>h pins s σ H D I (i D σ H q)
theorem ae0 (h:SE X Y e f):BE X Y e f:=PE.imp h λ_ _ _ ⟨F,ε,t,r,hf,k⟩=>⟨F,ε,t,r,hf,λF' v H' m q=>k F' v H' m (.v q)⟩
theorem _root_.L2.Inv.seal {X:Cx}{pins:List (Addr × Obj)}{σ:St}{H:Hp}{s:Shared}{a:Addr}{kvs:List (Key × V)}(I:Inv X pins σ H s)(h:H a=some (.dK kvs))(h0:X.H₀ a=none\/ True)(hn:∀o u,X.H₀ a≠some (.frz o u))(ht:∀xs,X.H₀ a≠some (.tup xs))(hb:∀ps,X.H₀ a≠some (.tbl ps)):
  ∃o,Inv X pins σ (upd H a (.frz o (.dK kvs))) s:=by
 have ok:=I.hok a _ h
 obtain⟨_,_,_,_,ob,_,_,hob,_⟩:=id ok
 have hm:∀b u,H b=some u->b≠a->upd H a (.frz ob (.dK kvs)) b=some u:=λb u q ne=>by rw [aj0 ne]; exact q
 have up:∀b u,H b=some u->(∀z,u≠ .dK z)->upd H a (.frz ob (.dK kvs)) b=some u:=λb u q ne=>hm b u q λz=>by rw [z,h] at q; exact ne kvs (Option.some.inj q).symm
 have nn:∀b,H b=none->upd H a (.frz ob (.dK kvs)) b=none:=λb q=>by rw [aj0 (λz=>by rw [z,h] at q; cases q)]; exact q
 refine⟨ob,⟨I.ok,I.os,I.bare,⟨I.base.keep,I.base.slot,λb o e n hx=>nn b (I.base.free b o e n hx),I.base.there,λb xs e=>up b _ (I.base.tups b xs e) (λz w=>by cases w),λb o u e=> ?_,λb ps e=> ?_⟩,I.loc,I.cell,nn _ I.free,λx c e=>nn c (I.freeC x c e),λp hp=> ?_,λb u e=> ?_,I.len⟩⟩
 ·refine up b _ (I.base.frzs b o u e) λz w=>by cases w
 ·obtain⟨mo,q⟩:=I.base.tbls b ps e
  exact⟨mo,up b _ q λz w=>by cases w⟩
 ·obtain⟨h1,h2,h3⟩:=I.pin p hp
  exact⟨h1,nn _ h2,h3⟩
 ·have st:∀{c:Addr} {v:HO},ObjOk X.prog X.w H s.heap c v->ObjOk X.prog X.w (upd H a (.frz ob (.dK kvs))) s.heap c v:=λx=>x.stay (λ_ _ _ q=>q) (λc q=>up c _ q λz w=>by cases w) λc xs q=>up c _ q λz w=>by cases w
  by_cases hba:b=a
  ·subst hba
   rw [ag0] at e
   cases e
   exact⟨hob,st ok⟩
  ·rw [aj0 hba] at e
   exact st (I.hok b u e)
theorem cH0 (h:FE X Y e f):SE X Y e f:=by
 intro pins s σ H Q I ⟨F,ε,t,r,hf,k⟩
 refine thn (h pins s σ H (λv H'=>∃F' a,v=.ref a/\Mono F H F' H'/\H a=none/\¬F' a/\Rp1 F' H' a t) I ⟨F,ε,t,r,hf,λF' a H' m n nf q=>⟨F',a,rfl,m,n,nf,q⟩⟩) λu s1 ⟨v,H1,I1,rv,F1,a,ev,m,n,nf,q⟩=> ?_
 subst ev
 by_cases hd:isD t=true
 ·cases t with
  |dct kts=>
   cases q with
   |dct ha rs=>
    rename_i kvs
    have z1:∀o u,X.H₀ a≠some (.frz o u):=λo u z=>by have:=I.base.frzs a o u z; rw [n] at this; cases this
    have z2:∀xs,X.H₀ a≠some (.tup xs):=λxs z=>by have:=I.base.tups a xs z; rw [n] at this; cases this
    have z3:∀ps,X.H₀ a≠some (.tbl ps):=λps z=>by obtain⟨mo,w⟩:=I.base.tbls a ps z; rw [n] at w; cases w
    obtain⟨ob,I2⟩:=I1.seal ha (.inr trivial) z1 z2 z3
    have kp:Keep F1 H1 (λb=>F1 b\/ b=a) (upd H1 a (.frz ob (.dK kvs))):=⟨λ_ h=> .inl h,λb u f q=>by rw [aj0 (λ(z:b=a)=>nf (z▸f))]; exact q,λb xs q=>by rw [aj0 (λ(z:b=a)=>by rw [z,ha] at q; cases q)]; exact q⟩
    have m2:Mono F H (λb=>F1 b\/ b=a) (upd H1 a (.frz ob (.dK kvs))):=⟨λb u q=>by rw [aj0 (ah0 q n)]; exact m.ext b u q,λb q=> .inl (m.sub b q),λb q=>q.elim (m.new b) λz=> .inr (z▸n),λb q=>by
     by_cases z:b=a
     ·exact⟨_,by rw [z]; exact ag0⟩
     ·rcases q with q|q
      ·obtain⟨u,w⟩:=m.trk b q
       exact⟨u,by rw [aj0 z]; exact w⟩
      ·exact absurd q z⟩
    exact⟨.ref a,_,I2,rv,k _ _ _ m2 (.dct (.inr rfl) ag0 (rs.keep kp))⟩
  |_=>cases hd
 ·exact⟨.ref a,H1,I1,rv,k _ _ _ (m.freeze n q.there) ((q.keep Keep.freeze rfl).frozen (.inr rfl) (by simpa using hd))⟩
theorem cp0 (h:FE X Y e f):BE X Y e f:=ae0 (cH0 h)
def eVar (i:Nat):En->Option T:=λε=>match ε[i]? with|some (.sh t)=>some t|some (.fix _ t)=>some t|_=>none
noncomputable def bVar (i:Nat):En->Option T:=λε=>match ε[i]? with|some (.sh t)=>some t|some (.ow t)=>some t|some (.fix _ t)=>some t|_=>none
def eC (t:T):En->Option T:=λ_=>some t
theorem ak0 (h:PE X (.Name x pos) (tVar i)):SE X Y (.Name x pos) (eVar i):=PE.imp h λσ H Q ⟨F,ε,t,r,hf,k⟩=>by
 unfold eVar at hf
 split at hf
 ·cases hf
  obtain⟨v,h1,h2⟩:=r.sh i t (by assumption)
  exact⟨v,h1,k F v H r.refl h2⟩
 ·cases hf
  obtain⟨h1,h2⟩:=r.fx i _ _ (by assumption)
  exact⟨_,h1,k F _ H r.refl h2⟩
 ·cases hf
theorem ac0 (h:PE X (.Name x pos) (tVar i)):BE X Y (.Name x pos) (bVar i):=PE.imp h λσ H Q ⟨F,ε,t,r,hf,k⟩=>by
 unfold bVar at hf
 split at hf
 ·cases hf
  obtain⟨v,h1,h2⟩:=r.sh i t (by assumption)
  exact⟨v,h1,k F v H r.refl (.v h2)⟩
 ·cases hf
  obtain⟨a,h1,_,_,h2⟩:=r.ow i t (by assumption)
  exact⟨_,h1,k F _ H r.refl (.o h2)⟩
 ·cases hf
  obtain⟨h1,h2⟩:=r.fx i _ _ (by assumption)
  exact⟨_,h1,k F _ H r.refl (.v h2)⟩
 ·cases hf
theorem mq0 (h:PE X e (tC v))(r:∀F H,Rp F H v t):SE X Y e (eC t):=PE.imp h λσ H Q ⟨F,ε,u,rl,hf,k⟩=>by
 cases hf
 exact k F v H rl.refl (r F H)
theorem af0:SE X Y (.Constant (.int i) j pos) (eC (.int i)):=mq0 cC0 λ_ _=> .int i
theorem dv0:SE X Y (.Constant (.bool i) j pos) (eC (.bl i)):=mq0 ew0 λ_ _=> .bl i
theorem cn0:SE X Y (.Constant (.str i) j pos) (eC (.str i)):=mq0 rE0 λ_ _=> .str i
theorem mG0:SE X Y (.Constant .none j pos) (eC .non):=mq0 ep0 λ_ _=> .non
def e1 (φ:T->Option T)(f:En->Option T):En->Option T:=λε=>(f ε).bind φ
def e2 (φ:T->T->Option T)(f g:En->Option T):En->Option T:=λε=>(f ε).bind λs=>(g ε).bind λt=>φ s t
def Op2 (r:R2)(φ:T->T->Option T):Prop:=∀F H x y s t u Q,(∀a,F a->∃o,H a=some o)->Rb F H x s->Rb F H y t->φ s t=some u->(∀F' v H',Mono F H F' H'->Rp F' H' v u->Q v H')->r x y H Q
theorem nJ0 {φ:T->T->Option T}(o:Op2 r φ)(σ:St)(H:Hp)(Q:VK)(h:Tr Y (e2 φ f g) σ H Q):tOp r (TrB Y f) (TrB Y g) σ H Q:=by
 obtain⟨F,ε,u,rl,hf,k⟩:=h
 unfold e2 at hf
 cases q1:f ε with
 |none=>rw [q1] at hf; cases hf
 |some s=>
  rw [q1] at hf
  cases q2:g ε with
  |none=>simp only [Aa2,q2] at hf; cases hf
  |some t=>
   simp only [Aa2,q2] at hf
   refine⟨F,ε,s,rl,q1,λF1 x H1 m1 r1=>⟨F1,ε,t,rl.mono m1,q2,λF2 y H2 m2 r2=> ?_⟩⟩
   exact o F2 H2 x y s t u Q m2.trk (r1.keep m2) r2 hf λF3 v H3 m3 r3=>k F3 v H3 ((m1.trans m2).trans m3) r3
theorem kL0 {φ:T->T->Option T}(ho:OpR X (binaryOp op) r)(o:Op2 r φ)(ha:BE X Y a f)(hb:BE X Y b g):SE X Y (.BinOp a op b pos) (e2 φ f g):=PE.imp (kV0 ho ha hb) (nJ0 o)
theorem oM0 {φ:T->T->Option T}(ho:OpR X (compareOp op) r)(o:Op2 r φ)(ha:BE X Y a f)(hb:BE X Y b g)(hm:behindInMarks op b=false):SE X Y (.Compare a [op] [b] pos) (e2 φ f g):=PE.imp (hS0 ho ha hb hm) (nJ0 o)
def qB (f:En->Option T):En->Option Bool:=λε=>match f ε with|some (.bl b)=>some b|_=>none
theorem it0 {te:TE}(h:∀σ H Q,Tr Y f σ H Q->te σ H Q)(σ:St)(H:Hp)(Q:Bool->Hp->Prop)(q:TrT Y (qB f) σ H Q):nQ0 te σ H Q:=by
 obtain⟨F,ε,b,rl,hf,k⟩:=q
 unfold qB at hf
 split at hf
 ·cases hf
  refine h σ H _ ⟨F,ε,.bl b,rl,by assumption,λF' v H' m r=>⟨b,(Rb.v r).bl_,k F' H' m⟩⟩
 ·cases hf
theorem dV0 {φ:T->T->Option T}(ho:OpR X (compareOp op) r)(o:Op2 r φ)(ha:BE X Y a f)(hb:BE X Y b g)(hm:behindInMarks op b=false):QT X Y (.Compare a [op] [b] pos) (qB (e2 φ f g)):=PT.imp (eY0 ho ha hb hm) (it0 (nJ0 o))
theorem bx0 (h:SE X Y e f)(he:∀whole,isTrue e X.env whole=(do let v<- whole; standAt e.pos; holding [v] (truthy v)):=by intro _; rfl):QT X Y e (qB f):=PT.imp (fB0 h he) (it0 λ_ _ _ z=>z)
def qNot (f:En->Option Bool):En->Option Bool:=λε=>(f ε).map (!·)
def qAnd (f g:En->Option Bool):En->Option Bool:=λε=>(f ε).bind λb=>if b=true then g ε else some false
def qOr (f g:En->Option Bool):En->Option Bool:=λε=>(f ε).bind λb=>if b=true then some true else g ε
variable {p q:En->Option Bool}{rest:List Expr}
theorem bN0 (h:QT X Y a p):QT X Y (.UnaryOp .Not a pos) (qNot p):=PT.imp (lg0 h) λσ H Q ⟨F,ε,b,rl,hf,k⟩=>by
 unfold qNot at hf
 cases e:p ε with
 |none=>rw [e] at hf; cases hf
 |some c=>rw [e] at hf; cases hf; exact⟨F,ε,c,rl,e,k⟩
theorem pW0 (h:QT X Y a p):QW X Y (.BoolOp .And [a] pos) p:=ph0 h
theorem cO0 (h:QT X Y a p):QW X Y (.BoolOp .Or [a] pos) p:=rY0 h
theorem sc0 (h:QT X Y a p)(h2:QW X Y (.BoolOp .And (b::rest) pos) q):QW X Y (.BoolOp .And (a::b::rest) pos) (qAnd p q):=PW.imp (rT0 h h2) λσ H Q ⟨F,ε,c,rl,hf,k⟩=>by
 unfold qAnd at hf
 cases e:p ε with
 |none=>rw [e] at hf; cases hf
 |some d=>
  rw [e] at hf
  refine⟨F,ε,d,rl,e,λF1 H1 m1=> ?_⟩
  cases d with
  |true=>exact⟨F1,ε,c,rl.mono m1,by simpa using hf,λF2 H2 m2=>k F2 H2 (m1.trans m2)⟩
  |false=>cases hf; exact k F1 H1 m1
theorem di0 (h:QT X Y a p)(h2:QW X Y (.BoolOp .Or (b::rest) pos) q):QW X Y (.BoolOp .Or (a::b::rest) pos) (qOr p q):=PW.imp (pw_or h h2) λσ H Q ⟨F,ε,c,rl,hf,k⟩=>by
 unfold qOr at hf
 cases e:p ε with
 |none=>rw [e] at hf; cases hf
 |some d=>
  rw [e] at hf
  refine⟨F,ε,d,rl,e,λF1 H1 m1=> ?_⟩
  cases d with
  |true=>cases hf; exact k F1 H1 m1
  |false=>exact⟨F1,ε,c,rl.mono m1,by simpa using hf,λF2 H2 m2=>k F2 H2 (m1.trans m2)⟩
theorem qt_w (h:QW X Y e p):QT X Y e p:=h.pt
end
inductive Fl where
 |nx (ε:En)|rt (o:Bool) (t:T)|bk (ε:En)|ct (ε:En)|xc (C:Addr)
structure End (Y:Fx)(F:Addr->Prop)(H:Hp):Prop where
 same:∀b o,Y.H₀ b=some o->H b=some o
 sub:∀a,Y.F₀ a->F a
 new:∀a,F a->Y.F₀ a\/ Y.H₀ a=none
 trk:∀a,F a->∃o,H a=some o
theorem Rel.fin {F:Addr->Prop}(r:Rel Y F ε σ H):End Y F H:=⟨r.same,r.sub,r.new,r.trk⟩
def Res (Y:Fx)(o:Bool)(F:Addr->Prop)(H:Hp)(v:V)(t:T):Prop:=
 if o=true then∃a,v=.ref a/\¬F a/\Y.H₀ a=none/\Rp1 F H a t else Rp F H v t
def Post (Y:Fx)(D:Ends)(F:Addr->Prop)(H:Hp):Fl->Prop
 | .nx ε=>∀F' σ' H',Keep F H F' H'->Rel Y F' ε σ' H'->D.nx σ' H'
 | .rt o t=>∀F' v H',End Y F' H'->Res Y o F' H' v t->D.rt v H'
 | .bk ε=>∀F' σ' H',Keep F H F' H'->Rel Y F' ε σ' H'->D.bk σ' H'
 | .ct ε=>∀F' σ' H',Keep F H F' H'->Rel Y F' ε σ' H'->D.ct σ' H'
 | .xc C=>∀F' H',End Y F' H'->Y.xk C H'
theorem Post.keep {F F1:Addr->Prop}(k:Keep F H F1 H1)(p:Post Y D F H fl):Post Y D F1 H1 fl:=by
 cases fl with
 |nx ε=>exact λF' σ' H' k' r=>p F' σ' H' (k.trans k') r
 |rt o t=>exact p
 |bk ε=>exact λF' σ' H' k' r=>p F' σ' H' (k.trans k') r
 |ct ε=>exact λF' σ' H' k' r=>p F' σ' H' (k.trans k') r
 |xc C=>exact p
def TrS (Y:Fx)(g:En->Option Fl):TS:=λD σ H=>∃F ε fl,Rel Y F ε σ H/\g ε=some fl/\Post Y D F H fl
abbrev SS (X:Cx)(Y:Fx)(st:Stmt)(g:En->Option Fl):Prop:=PS X st (TrS Y g)
abbrev SSs (X:Cx)(Y:Fx)(st:List Stmt)(g:En->Option Fl):Prop:=PSs X st (TrS Y g)
theorem aQ0 {α:Type}{l:List α}{i j:Nat}{a b:α}(h:(l.set i a)[j]?=some b):(j=i/\i<l.length/\b=a)\/ (j≠i/\l[j]?=some b):=by
 rw [List.getElem?_set] at h
 by_cases e:i=j
 ·rw [if_pos e] at h
  by_cases h2:i<l.length
  ·rw [if_pos h2] at h; exact .inl ⟨e.symm,h2,(Option.some.inj h).symm⟩
  ·rw [if_neg h2] at h; cases h
 ·rw [if_neg e] at h
  exact .inr ⟨λz=>e z.symm,h⟩
section
variable {Y:Fx}{F:Addr->Prop}{ε:En}{σ:St}{H:Hp}
theorem Rel.set_sh (r:Rel Y F ε σ H){i:Nat}{v:V}{t:T}(h:Rp F H v t):Rel Y F (ε.set i (.sh t)) (σ.set i (some v)) H where
 len:=by rw [Am5,Am5]; exact r.len
 sh:=λj u e=>by
  rcases aQ0 e with⟨rfl,hl,e⟩|⟨ne,e⟩
  ·cases e; exact⟨v,by rw [Aj5 (by rw [<- r.len]; exact hl)],h⟩
  ·obtain⟨v',h1,h2⟩:=r.sh j u e
   exact⟨v',by rw [Ad7 (Ne.symm ne)]; exact h1,h2⟩
 ow:=λj u e=>by
  rcases aQ0 e with⟨rfl,hl,e⟩|⟨ne,e⟩
  ·cases e
  ·obtain⟨a,h1,h2⟩:=r.ow j u e
   exact⟨a,by rw [Ad7 (Ne.symm ne)]; exact h1,h2⟩
 inj:=λj k u w a ne e1 e2 s1 s2=>by
  rcases aQ0 e1 with⟨rfl,hl,e⟩|⟨n1,e1⟩
  ·cases e
  rcases aQ0 e2 with⟨rfl,hl,e⟩|⟨n2,e2⟩
  ·cases e
  rw [Ad7 (Ne.symm n1)] at s1
  rw [Ad7 (Ne.symm n2)] at s2
  exact r.inj j k u w a ne e1 e2 s1 s2
 same:=r.same
 sub:=r.sub
 new:=r.new
 trk:=r.trk
 me:=λj u b e hi s1=>by
  rcases aQ0 e with⟨rfl,hl,e⟩|⟨ne,e⟩
  ·cases e
  ·rw [Ad7 (Ne.symm ne)] at s1
   exact r.me j u b e hi s1
 fx:=λj v' u e=>by
  rcases aQ0 e with⟨rfl,hl,e⟩|⟨ne,e⟩
  ·cases e
  ·rw [Ad7 (Ne.symm ne)]
   exact r.fx j v' u e
theorem Rel.set_ow (r:Rel Y F ε σ H){i:Nat}{a:Addr}{t:T}(nf:¬F a)(h0:Y.H₀ a=none)(h:Rp1 F H a t)(hn:∀(j:Nat) u,ε[j]?=some (.ow u)->σ[j]?≠some (some (.ref a)))(hm:isI t=false):Rel Y F (ε.set i (.ow t)) (σ.set i (some (.ref a))) H where
 len:=by rw [Am5,Am5]; exact r.len
 sh:=λj u e=>by
  rcases aQ0 e with⟨rfl,hl,e⟩|⟨ne,e⟩
  ·cases e
  ·obtain⟨v',h1,h2⟩:=r.sh j u e
   exact⟨v',by rw [Ad7 (Ne.symm ne)]; exact h1,h2⟩
 ow:=λj u e=>by
  rcases aQ0 e with⟨rfl,hl,e⟩|⟨ne,e⟩
  ·cases e; exact⟨a,by rw [Aj5 (by rw [<- r.len]; exact hl)],nf,h0,h⟩
  ·obtain⟨a,h1,h2⟩:=r.ow j u e
   exact⟨a,by rw [Ad7 (Ne.symm ne)]; exact h1,h2⟩
 inj:=λj k u w b ne e1 e2 s1 s2=>by
  rcases aQ0 e1 with⟨z1,hl,_⟩|⟨n1,q1⟩
  ·rcases aQ0 e2 with⟨z2,hl2,_⟩|⟨n2,q2⟩
   ·exact ne (z1.trans z2.symm)
   ·rw [z1,Aj5 (by rw [<- r.len]; exact hl)] at s1
    cases s1
    rw [Ad7 (Ne.symm n2)] at s2
    exact hn k w q2 s2
  ·rcases aQ0 e2 with⟨z2,hl2,_⟩|⟨n2,q2⟩
   ·rw [z2,Aj5 (by rw [<- r.len]; exact hl2)] at s2
    cases s2
    rw [Ad7 (Ne.symm n1)] at s1
    exact hn j u q1 s1
   ·rw [Ad7 (Ne.symm n1)] at s1
    rw [Ad7 (Ne.symm n2)] at s2
    exact r.inj j k u w b ne q1 q2 s1 s2
 same:=r.same
 sub:=r.sub
 new:=r.new
 trk:=r.trk
 me:=λj u b e hi s1=>by
  rcases aQ0 e with⟨rfl,hl,e⟩|⟨ne,e⟩
  ·cases e; rw [hm] at hi; cases hi
  ·rw [Ad7 (Ne.symm ne)] at s1
   exact r.me j u b e hi s1
 fx:=λj v' u e=>by
  rcases aQ0 e with⟨rfl,hl,e⟩|⟨ne,e⟩
  ·cases e
  ·rw [Ad7 (Ne.symm ne)]
   exact r.fx j v' u e
theorem Rel.write (r:Rel Y F ε σ H){i:Nat}{a:Addr}{t t':T}{o:HO}(e:ε[i]?=some (.ow t))(s:σ[i]?=some (some (.ref a)))(mu:∀xs,H a≠some (.tup xs))(h:Rp1 F (upd H a o) a t')(hm:isI t'=true->isI t=true:=by exact nofun):
  Rel Y F (ε.set i (.ow t')) σ (upd H a o)/\Keep F H F (upd H a o):=by
 obtain⟨a',s',nf,h0,hr⟩:=r.ow i t e
 rw [s] at s'
 cases s'
 have k:Keep F H F (upd H a o):=⟨λ_ h=>h,λb u f q=>by rw [aj0 (λ(z:b=a)=>nf (z▸f))]; exact q,λb xs q=>by rw [aj0 (λ(z:b=a)=>mu xs (z▸q))]; exact q⟩
 have hil:i<ε.length:=(Aa9.mp e).1
 refine⟨⟨by rw [Am5]; exact r.len,λj u q=> ?_,λj u q=> ?_,λj k' u w b ne e1 e2 s1 s2=> ?_,λb u q=> ?_,r.sub,r.new,λb f=> ?_,λj u b q hi s1=> ?_,λj v' u q=> ?_⟩,k⟩
 ·rcases aQ0 q with⟨rfl,hl,q⟩|⟨ne,q⟩
  ·cases q
  ·obtain⟨v',h1,h2⟩:=r.sh j u q
   exact⟨v',h1,h2.keep k⟩
 ·rcases aQ0 q with⟨rfl,hl,q⟩|⟨ne,q⟩
  ·cases q; exact⟨a,s,nf,h0,h⟩
  ·obtain⟨b,h1,h2,h3,h4⟩:=r.ow j u q
   have nba:b≠a:=λz=>r.inj j i u t a ne q e (z▸h1) s
   exact⟨b,h1,h2,h3,h4.keep k (aj0 nba)⟩
 ·rcases aQ0 e1 with⟨rfl,hl,q⟩|⟨n1,q1⟩
  ·rcases aQ0 e2 with⟨rfl,hl2,q2⟩|⟨n2,q2⟩
   ·exact ne rfl
   ·exact r.inj _ k' t w b ne e q2 s1 s2
  ·rcases aQ0 e2 with⟨rfl,hl2,q2⟩|⟨n2,q2⟩
   ·exact r.inj j _ u t b ne q1 e s1 s2
   ·exact r.inj j k' u w b ne q1 q2 s1 s2
 ·rw [aj0 (λz=>by rw [z,h0] at q; cases q)]
  exact r.same b u q
 ·obtain⟨u,q⟩:=r.trk b f
  exact⟨u,by rw [aj0 (λ(z:b=a)=>nf (z▸f))]; exact q⟩
 ·rcases aQ0 q with⟨rfl,hl,q⟩|⟨ne,q⟩
  ·cases q; exact r.me _ t b e (hm hi) s1
  ·exact r.me j u b q hi s1
 ·rcases aQ0 q with⟨rfl,hl,q⟩|⟨ne,q⟩
  ·cases q
  ·obtain⟨h1,h2⟩:=r.fx j v' u q
   exact⟨h1,h2.keep k⟩
def frz (i:Nat)(ε:En):En:=match ε[i]? with|some (.ow t)=>if isD t then ε else ε.set i (.sh t)|_=>ε
theorem Rel.freeze (r:Rel Y F ε σ H)(i:Nat):∃F',Rel Y F' (frz i ε) σ H/\Keep F H F' H:=by
 unfold frz
 split
 ·rename_i t e
  split
  ·exact⟨F,r,Keep.refl⟩
  rename_i nd
  obtain⟨a,s,nf,h0,hr⟩:=r.ow i t e
  have k:Keep F H (λb=>F b\/ b=a) H:=Keep.freeze
  refine⟨λb=>F b\/ b=a,⟨by rw [Am5]; exact r.len,λj u q=> ?_,λj u q=> ?_,λj k' u w b ne e1 e2 s1 s2=> ?_,r.same,λb f=> .inl (r.sub b f),λb f=> ?_,λb f=> ?_,λj u b q hi s1=> ?_,λj v' u q=> ?_⟩,k⟩
  ·rcases aQ0 q with⟨rfl,hl,q⟩|⟨ne,q⟩
   ·cases q; exact⟨_,s,(hr.keep k rfl).frozen (.inr rfl) (by simpa using nd)⟩
   ·obtain⟨v',h1,h2⟩:=r.sh j u q
    exact⟨v',h1,h2.keep k⟩
  ·rcases aQ0 q with⟨rfl,hl,q⟩|⟨ne,q⟩
   ·cases q
   ·obtain⟨b,h1,h2,h3,h4⟩:=r.ow j u q
    refine⟨b,h1,λz=>z.elim h2 λz=>r.inj j i u t a ne q e (z▸h1) s,h3,h4.keep k rfl⟩
  ·rcases aQ0 e1 with⟨rfl,hl,q⟩|⟨n1,q1⟩
   ·cases q
   ·rcases aQ0 e2 with⟨rfl,hl2,q2⟩|⟨n2,q2⟩
    ·cases q2
    ·exact r.inj j k' u w b ne q1 q2 s1 s2
  ·exact f.elim (r.new b) λz=> .inr (z▸h0)
  ·rcases f with f|f
   ·exact r.trk b f
   ·rw [f]; exact hr.there
  ·rcases aQ0 q with⟨rfl,hl,q⟩|⟨ne,q⟩
   ·cases q
   ·exact r.me j u b q hi s1
  ·rcases aQ0 q with⟨rfl,hl,q⟩|⟨ne,q⟩
   ·cases q
   ·obtain⟨h1,h2⟩:=r.fx j v' u q
    exact⟨h1,h2.keep k⟩
 ·exact⟨F,r,Keep.refl⟩
end
section
variable {X:Cx}{Y:Fx}{st:Stmt}{rest:List Stmt}{e:Expr}{pos pos':Pos}{f:En->Option T}{g g2:En->Option Fl}{p:En->Option Bool}
theorem mf0 (i:Nat)(h:SS X Y st g):SS X Y st (λε=>g (frz i ε)):=PS.imp h λD σ H ⟨F,ε,fl,r,hg,k⟩=>by
 obtain⟨F',r',kp⟩:=r.freeze i
 exact⟨F',frz i ε,fl,r',hg,k.keep kp⟩
def sNx:En->Option Fl:=λε=>some (.nx ε)
def sSeq (g g2:En->Option Fl):En->Option Fl:=λε=>(g ε).bind λfl=>match fl with| .nx ε'=>g2 ε'|fl=>some fl
theorem aM0:SSs X Y [] sNx:=PSs.imp bq0 λD σ H ⟨F,ε,fl,r,hg,k⟩=>by cases hg; exact k F σ H Keep.refl r
theorem ai0 (h1:SS X Y st g)(h2:SSs X Y rest g2):SSs X Y (st::rest) (sSeq g g2):=PSs.imp (am0 h1 h2) λD σ H ⟨F,ε,fl,r,hg,k⟩=>by
 unfold sSeq at hg
 cases q:g ε with
 |none=>rw [q] at hg; cases hg
 |some fl1=>
  rw [q] at hg
  refine⟨F,ε,fl1,r,q,?_⟩
  cases fl1 with
  |nx ε'=>exact λF' σ' H' kp r'=>⟨F',ε',fl,r',hg,k.keep kp⟩
  |rt o t=>cases hg; exact k
  |bk ε'=>cases hg; exact k
  |ct ε'=>cases hg; exact k
  |xc C=>cases hg; exact k
theorem al0 (h1:SS X Y st g):SSs X Y [st] g:=aw0 h1
theorem rL0 {sts:List Stmt}:SSs X Y sts (λ_=>none):=PSs.imp ng0 λD σ H ⟨F,ε,fl,r,hg,k⟩=>by cases hg
theorem bU0:SS X Y st (λ_=>none):=PS.imp nn0 λD σ H ⟨F,ε,fl,r,hg,k⟩=>by cases hg
def sIf (p:En->Option Bool)(g g2:En->Option Fl):En->Option Fl:=λε=>(p ε).bind λb=>if b=true then g ε else g2 ε
theorem bP0 {c:Expr}{a b:List Stmt}(hc:QT X Y c p)(ha:SSs X Y a g)(hb:SSs X Y b g2):SS X Y (.If c a b pos) (sIf p g g2):=PS.imp (cM0 hc ha hb) λD σ H ⟨F,ε,fl,r,hg,k⟩=>by
 unfold sIf at hg
 cases q:p ε with
 |none=>rw [q] at hg; cases hg
 |some d=>
  rw [q] at hg
  refine⟨F,ε,d,r,q,λF' H' m=> ?_⟩
  cases d with
  |true=>rw [if_pos rfl]; exact⟨F',ε,fl,r.mono m,by simpa using hg,k.keep m.keep⟩
  |false=>rw [if_neg Ab4]; exact⟨F',ε,fl,r.mono m,by simpa using hg,k.keep m.keep⟩
def sSet (i:Nat)(f:En->Option T):En->Option Fl:=λε=>(f ε).map λt=> .nx (ε.set i (.sh t))
def cT0 (i:Nat)(f:En->Option T):En->Option Fl:=λε=>(f ε).bind λt=>if isI t=true then none else some (.nx (ε.set i (.ow t)))
theorem gC0 {te:TE}{i:Nat}(h:PS X st (tAsg te (cr0 i)))(ht:∀σ H Q,Tr Y f σ H Q->te σ H Q):SS X Y st (sSet i f):=PS.imp h λD σ H ⟨F,ε,fl,r,hg,k⟩=>by
 unfold sSet at hg
 cases q:f ε with
 |none=>rw [q] at hg; cases hg
 |some t=>
  rw [q] at hg; cases hg
  exact ht _ _ _ ⟨F,ε,t,r,q,λF' v H' m rv=>k F' _ H' m.keep ((r.mono m).set_sh rv)⟩
theorem kC0 {te:TE}{i:Nat}(h:PS X st (tAsg te (cr0 i)))(ht:∀σ H Q,TrF Y f σ H Q->te σ H Q):SS X Y st (cT0 i f):=PS.imp h λD σ H ⟨F,ε,fl,r,hg,k⟩=>by
 unfold cT0 at hg
 cases q:f ε with
 |none=>rw [q] at hg; cases hg
 |some t=>
  rw [q] at hg
  simp only [Aa2] at hg
  split at hg
  ·cases hg
  rename_i hi
  cases hg
  refine ht _ _ _ ⟨F,ε,t,r,q,λF' a H' m n nf rv=>k F' _ H' m.keep ((r.mono m).set_ow nf ?_ rv (λj u e z=> ?_) (by simpa using hi))⟩
  ·cases q:Y.H₀ a with
   |none=>rfl
   |some o=>rw [r.same a o q] at n; cases n
  ·obtain⟨b,h1,_,_,h2⟩:=r.ow j u e
   rw [h1] at z
   cases z
   obtain⟨o,q⟩:=h2.there
   rw [q] at n; cases n
theorem bb0 (hN:X.N.Nodup)(hi:X.N[i]?=some x)(hx:Loc X.env.scope x)(he:SE X Y e f)(hs:swapsWith e (some (.Name x pos')) pos.line X.env=pure false:=by rfl)
  (hf:X.fn x=true\/ X.env.scope.names.lookup x=some .local:=by first|exact .inl rfl|exact .inr rfl|assumption):SS X Y (.Assign [.Name x pos'] e pos) (sSet i f):=gC0 (bA0 hN hi hx he hs hf) λ_ _ _ z=>z
theorem fq0 (hN:X.N.Nodup)(hi:X.N[i]?=some x)(hx:Loc X.env.scope x)(he:FE X Y e f)(hs:swapsWith e (some (.Name x pos')) pos.line X.env=pure false:=by rfl)
  (hf:X.fn x=true\/ X.env.scope.names.lookup x=some .local:=by first|exact .inl rfl|exact .inr rfl|assumption):SS X Y (.Assign [.Name x pos'] e pos) (cT0 i f):=kC0 (bA0 hN hi hx he hs hf) λ_ _ _ z=>z
def sRet (o:Bool)(f:En->Option T):En->Option Fl:=λε=>(f ε).map λt=> .rt o t
theorem aN0 (he:SE X Y e f):SS X Y (.Return (some e) pos) (sRet false f):=PS.imp (aW0 he) λD σ H ⟨F,ε,fl,r,hg,k⟩=>by
 unfold sRet at hg
 cases q:f ε with
 |none=>rw [q] at hg; cases hg
 |some t=>
  rw [q] at hg; cases hg
  exact⟨F,ε,t,r,q,λF' v H' m rv=>k F' v H' (r.mono m).fin rv⟩
theorem fn0 (he:FE X Y e f):SS X Y (.Return (some e) pos) (sRet true f):=PS.imp (aW0 he) λD σ H ⟨F,ε,fl,r,hg,k⟩=>by
 unfold sRet at hg
 cases q:f ε with
 |none=>rw [q] at hg; cases hg
 |some t=>
  rw [q] at hg; cases hg
  refine⟨F,ε,t,r,q,λF' a H' m n nf rv=>k F' _ H' (r.mono m).fin ⟨a,rfl,nf,?_,rv⟩⟩
  cases q:Y.H₀ a with
  |none=>rfl
  |some o=>rw [r.same a o q] at n; cases n
def fv0 (i:Nat):En->Option Fl:=λε=>match ε[i]? with|some (.ow t)=>some (.rt true t)|_=>none
theorem ir0 {i:Nat}{x:Str}(h:PE X (.Name x pos') (tVar i)):SS X Y (.Return (some (.Name x pos')) pos) (fv0 i):=PS.imp (aW0 h) λD σ H ⟨F,ε,fl,r,hg,k⟩=>by
 unfold fv0 at hg
 split at hg
 ·cases hg
  obtain⟨a,s,nf,h0,hr⟩:=r.ow i _ (by assumption)
  exact⟨_,s,k F _ H r.fin ⟨a,rfl,nf,h0,hr⟩⟩
 ·cases hg
def bd0 (f:En->Option T):En->Option Fl:=λε=>(f ε).map λ_=> .nx ε
theorem bD0 (he:SE X Y e f)(hs:swapsWith e none pos.line X.env=pure false:=by rfl):SS X Y (.Expr e pos) (bd0 f):=PS.imp (bB0 he hs) λD σ H ⟨F,ε,fl,r,hg,k⟩=>by
 unfold bd0 at hg
 cases q:f ε with
 |none=>rw [q] at hg; cases hg
 |some t=>
  rw [q] at hg; cases hg
  exact⟨F,ε,t,r,q,λF' v H' m rv=>k F' σ H' m.keep (r.mono m)⟩
end
def aNil:En->Option (List T):=λ_=>some []
def aa0 (f:En->Option T)(g:En->Option (List T)):En->Option (List T):=λε=>(f ε).bind λt=>(g ε).bind λts=>some (t::ts)
section
variable {X:Cx}{Y:Fx}{e a b:Expr}{es:List Expr}{pos p:Pos}{f g:En->Option T}{fa:En->Option (List T)}
theorem ap0:SA X Y [] aNil:=PA.imp ax0 λσ H Q ⟨F,ε,ts,r,hf,k⟩=>by cases hf; exact k F [] H r.refl .nil
theorem aF0:BA X Y [] aNil:=PA.imp ax0 λσ H Q ⟨F,ε,ts,r,hf,k⟩=>by cases hf; exact k F [] H r.refl .nil
theorem fU0 (h:aa0 f fa ε=some ts):∃t us,f ε=some t/\fa ε=some us/\ts=t::us:=by
 unfold aa0 at h
 cases q1:f ε with
 |none=>rw [q1] at h; cases h
 |some t=>
  rw [q1] at h
  cases q2:fa ε with
  |none=>simp only [Aa2,q2] at h; cases h
  |some us=>simp only [Aa2,q2] at h; cases h; exact⟨t,us,rfl,rfl,rfl⟩
theorem ab0 (ha:SE X Y e f)(hr:SA X Y es fa)(hs:starEach (e::es) X.env=(false,eval e X.env)::starEach es X.env:=by rfl):SA X Y (e::es) (aa0 f fa):=PA.imp (ao0 ha hr hs) λσ H Q ⟨F,ε,ts,r,hf,k⟩=>by
 obtain⟨t,us,q1,q2,rfl⟩:=fU0 hf
 exact⟨F,ε,t,r,q1,λF1 x H1 m1 r1=>⟨F1,ε,us,r.mono m1,q2,λF2 xs H2 m2 r2=>k F2 (x::xs) H2 (m1.trans m2) (.cons (r1.keep m2.keep) r2)⟩⟩
theorem ar0 (ha:BE X Y e f)(hr:BA X Y es fa)(hs:starEach (e::es) X.env=(false,eval e X.env)::starEach es X.env:=by rfl):BA X Y (e::es) (aa0 f fa):=PA.imp (ao0 ha hr hs) λσ H Q ⟨F,ε,ts,r,hf,k⟩=>by
 obtain⟨t,us,q1,q2,rfl⟩:=fU0 hf
 exact⟨F,ε,t,r,q1,λF1 x H1 m1 r1=>⟨F1,ε,us,r.mono m1,q2,λF2 xs H2 m2 r2=>k F2 (x::xs) H2 (m1.trans m2) (.cons (r1.keep m2) r2)⟩⟩
def ay0 (φ:List T->Option T)(g:En->Option (List T)):En->Option T:=λε=>(g ε).bind φ
theorem fC0 {φ:List T->Option T}(h:ay0 φ fa ε=some u):∃ts,fa ε=some ts/\φ ts=some u:=by
 unfold ay0 at h
 cases q:fa ε with
 |none=>rw [q] at h; cases h
 |some ts=>rw [q] at h; exact⟨ts,rfl,h⟩
def Trk (F:Addr->Prop)(H:Hp):Prop:=∀a,F a->∃o,H a=some o
def OpN (r:List V->Hp->VK->Prop)(φ:List T->Option T):Prop:=∀F H xs ts u Q,Trk F H->Rbs F H xs ts->φ ts=some u->(∀F' v H',Mono F H F' H'->Rp F' H' v u->Q v H')->r xs H Q
def OpNF (r:List V->Hp->VK->Prop)(φ:List T->Option T):Prop:=∀F H xs ts u Q,Trk F H->Rbs F H xs ts->φ ts=some u->(∀F' a H',Mono F H F' H'->H a=none->¬F' a->Rp1 F' H' a u->Q (.ref a) H')->r xs H Q
theorem tr_cb {r:List V->Hp->VK->Prop}{φ:List T->Option T}(o:OpN r φ)(σ:St)(H:Hp)(Q:VK)(h:Tr Y (ay0 φ fa) σ H Q):tCB r (TrAB Y fa) σ H Q:=by
 obtain⟨F,ε,u,rl,hf,k⟩:=h
 obtain⟨ts,q1,q2⟩:=fC0 hf
 exact⟨F,ε,ts,rl,q1,λF1 xs H1 m1 r1=>o F1 H1 xs ts u Q m1.trk r1 q2 λF2 v H2 m2 r2=>k F2 v H2 (m1.trans m2) r2⟩
theorem rC0 {r:List V->Hp->VK->Prop}{φ:List T->Option T}(o:OpNF r φ)(σ:St)(H:Hp)(Q:VK)(h:TrF Y (ay0 φ fa) σ H Q):tCB r (TrAB Y fa) σ H Q:=by
 obtain⟨F,ε,u,rl,hf,k⟩:=h
 obtain⟨ts,q1,q2⟩:=fC0 hf
 exact⟨F,ε,ts,rl,q1,λF1 xs H1 m1 r1=>o F1 H1 xs ts u Q m1.trk r1 q2 λF2 a H2 m2 n nf r2=>k F2 a H2 (m1.trans m2) (m1.free n) nf r2⟩
section
variable {x:Str}{id T':String}{r:List V->Hp->VK->Prop}{φ:List T->Option T}
theorem eE0 (hc:ds0 X (.builtin id) r)(o:OpN r φ)(hg:Gl X x)(hm:X.mg x=none)(hv:bootBuiltins x=some (.builtin id))(ha:BA X Y (e::es) fa)(hn:x≠ "__name__" :=by decide) (hdb:(x==("__debug__" :Str))=false:=by decide)
  (he:starEach (e::es) X.env=(false,eval e X.env)::starEach es X.env:=by rfl) (hpl:(backTo pos (starEach es X.env)).any (·.1)=false:=by rfl):SE X Y (.Call (.Name x p) (e::es) [] pos) (ay0 φ fa):=PE.imp (bV0 hc hg hm hv ha hn hdb he hpl) (tr_cb o)
theorem mS0 (hc:ds0 X (.type T') r)(o:OpN r φ)(hg:Gl X x)(hm:X.mg x=none)(hv:bootBuiltins x=some (.type T'))(ha:BA X Y (e::es) fa)(hn:x≠ "__name__" :=by decide) (hdb:(x==("__debug__" :Str))=false:=by decide)
  (he:starEach (e::es) X.env=(false,eval e X.env)::starEach es X.env:=by rfl) (hpl:(backTo pos (starEach es X.env)).any (·.1)=false:=by rfl):SE X Y (.Call (.Name x p) (e::es) [] pos) (ay0 φ fa):=PE.imp (hH0 hc hg hm hv ha hn hdb he hpl) (tr_cb o)
theorem gP0 (hc:ds0 X (.type T') r)(o:OpNF r φ)(hg:Gl X x)(hm:X.mg x=none)(hv:bootBuiltins x=some (.type T'))(ha:BA X Y (e::es) fa)(hn:x≠ "__name__" :=by decide) (hdb:(x==("__debug__" :Str))=false:=by decide)
  (he:starEach (e::es) X.env=(false,eval e X.env)::starEach es X.env:=by rfl) (hpl:(backTo pos (starEach es X.env)).any (·.1)=false:=by rfl):FE X Y (.Call (.Name x p) (e::es) [] pos) (ay0 φ fa):=PE.imp (hH0 hc hg hm hv ha hn hdb he hpl) (rC0 o)
end
theorem Rps.laid {F:Addr->Prop}{H:Hp}{p:Addr}{o:HO}{xs:List V}{ts:List T}(hp:H p=none)(h:Rps F H xs ts)(t:Trk F H):Rps F (upd H p o) xs ts:=h.keep (Mono.laid t hp).keep
theorem Trk.new {F:Addr->Prop}{H:Hp}{p:Addr}(t:Trk F H)(hp:H p=none):¬F p:=λf=>by
 obtain⟨o,q⟩:=t p f
 rw [q] at hp; cases hp
def big:Nat:=1000000
theorem fS0 (h:n<=big):n<=sizeLine:=Ac6 h (by decide)
theorem ne0 (h:n<big):n<sizeLine:=Ad1 h (by decide)
def eTup (g:En->Option (List T)):En->Option T:=λε=>(g ε).bind λts=>if ts.length<=big then some (.tup ts) else none
def eLst (g:En->Option (List T)):En->Option T:=λε=>(g ε).bind λts=>if ts.length<=big then some (.lst ts) else none
theorem bS0 (h:SA X Y es fa):SE X Y (.Tuple es x1 pos) (eTup fa):=PE.imp (fP0 h) λσ H Q ⟨F,ε,u,rl,hf,k⟩=>by
 unfold eTup at hf
 cases q:fa ε with
 |none=>rw [q] at hf; cases hf
 |some ts=>
  rw [q] at hf
  simp only [Aa2] at hf
  split at hf
  ·cases hf
   refine⟨F,ε,ts,rl,q,λF1 xs H1 m1 r1=>⟨fS0 (by rw [r1.length]; assumption),λpp hp=> ?_⟩⟩
   exact k F1 _ _ (m1.trans (Mono.laid m1.trk hp)) (.tup ag0 (r1.laid hp m1.trk))
  ·cases hf
theorem cw0 (h:SA X Y es fa):FE X Y (.List es pos) (eLst fa):=PE.imp (dP0 h) λσ H Q ⟨F,ε,u,rl,hf,k⟩=>by
 unfold eLst at hf
 cases q:fa ε with
 |none=>rw [q] at hf; cases hf
 |some ts=>
  rw [q] at hf
  simp only [Aa2] at hf
  split at hf
  ·cases hf
   refine⟨F,ε,ts,rl,q,λF1 xs H1 m1 r1=>⟨fS0 (by rw [r1.length]; assumption),λpp hp=> ?_⟩⟩
   exact k F1 _ _ (m1.trans (Mono.laid m1.trk hp)) (m1.free hp) (Trk.new m1.trk hp) (.lst ag0 (r1.laid hp m1.trk))
  ·cases hf
def eDct0:En->Option T:=λ_=>some (.dct [])
theorem ps0:FE X Y (.Dict [] [] pos) eDct0:=PE.imp eF0 λσ H Q ⟨F,ε,u,rl,hf,k⟩=>by
 cases hf
 intro pp hp
 exact k F _ _ (Mono.laid rl.trk hp) hp (Trk.new rl.trk hp) (.dct ag0 .nil)
end
def φAdd:T->T->Option T| .int i,.int j=>some (.int (i+j))|_,_=>none
def φSub:T->T->Option T| .int i,.int j=>some (.int (i - j))|_,_=>none
def φMul:T->T->Option T| .int i,.int j=>if -(2^64)<j/\j<2^64 then some (.int (i*j)) else none|_,_=>none
def φMod:T->T->Option T| .int i,.int j=>if 0<j then some (.int (i%j)) else none|_,_=>none
def φDiv:T->T->Option T| .int i,.int j=>if 0<j/\j<1073741824 then some (.int (i / j)) else none|_,_=>none
def φLt:T->T->Option T| .int i,.int j=>some (.bl (decide (i<j)))|_,_=>none
def φLe:T->T->Option T| .int i,.int j=>some (.bl (decide (i<=j)))|_,_=>none
def φGt:T->T->Option T| .int i,.int j=>some (.bl (decide (j<i)))|_,_=>none
def φGe:T->T->Option T| .int i,.int j=>some (.bl (decide (j<=i)))|_,_=>none
def φLen:List T->Option T
 | [.lst ts]=>some (.int ts.length)
 | [.tup ts]=>some (.int ts.length)
 | [.str x]=>if x.length<=big then some (.int x.length) else none
 | [.scr ns]=>some (.int ns.length)
 |_=>none
def bw0:List T->Option T
 | [.lst ts]=>some (.tup ts)
 | [.tup ts]=>some (.tup ts)
 |_=>none
def gi0:List T->Option T
 | [.lst ts]=>some (.lst ts)
 | [.tup ts]=>some (.lst ts)
 |_=>none
def ed0:List T->Option T| [.int i,.int j]=>some (.int (if j<i then j else i))|_=>none
def kx0:List T->Option T| [.int i,.int j]=>some (.int (if j>i then j else i))|_=>none
def φIx:T->T->Option T
 | .lst ts,.int i=>atI ts i
 | .tup ts,.int i=>atI ts i
 | .scr ns,.int i=>(atI ns i).map .int
 |_,_=>none
theorem pT0 (h:L2.atI ns i=some z):L2.atI (ns.map V.int) i=some (.int z):=by
 unfold L2.atI at h ⊢
 rw [Aa1]
 obtain⟨j,h1,h2⟩:=Option.bind_eq_some_iff.mp h
 rw [h1,Aa2,Ab0,h2]
 rfl
theorem Rps.atI {F:Addr->Prop}(r:Rps F H xs ts)(h:L2.atI ts i=some t):∃x,L2.atI xs i=some x/\Rp F H x t:=by
 unfold L2.atI at h ⊢
 rw [r.length]
 cases q:ixN ts.length i with
 |none=>rw [q] at h; cases h
 |some j=>rw [q] at h; exact r.get h
section
variable {X:Cx}
theorem o_add:Op2 (rI0 λi j=> .int (i+j)) φAdd:=by
 intro F H x y s t u Q tk rx ry h k
 unfold φAdd at h
 split at h
 ·cases h; exact⟨_,_,rx.int_,ry.int_,k F _ H (.refl tk) (.int _)⟩
 ·cases h
theorem o_sub:Op2 (rI0 λi j=> .int (i - j)) φSub:=by
 intro F H x y s t u Q tk rx ry h k
 unfold φSub at h
 split at h
 ·cases h; exact⟨_,_,rx.int_,ry.int_,k F _ H (.refl tk) (.int _)⟩
 ·cases h
theorem o_mul:Op2 (rI CMul λi j=> .int (i*j)) φMul:=by
 intro F H x y s t u Q tk rx ry h k
 unfold φMul at h
 split at h
 ·split at h
  ·rename_i c
   cases h; exact⟨_,_,rx.int_,ry.int_,.inr ⟨c.1,c.2⟩,k F _ H (.refl tk) (.int _)⟩
  ·cases h
 ·cases h
theorem o_mod:Op2 (rI (λ_ j=>0<j) λi j=> .int (i%j)) φMod:=by
 intro F H x y s t u Q tk rx ry h k
 unfold φMod at h
 split at h
 ·split at h
  ·cases h; exact⟨_,_,rx.int_,ry.int_,by assumption,k F _ H (.refl tk) (.int _)⟩
  ·cases h
 ·cases h
theorem o_div:Op2 (rI CDiv λi j=> .int (i / j)) φDiv:=by
 intro F H x y s t u Q tk rx ry h k
 unfold φDiv at h
 split at h
 ·split at h
  ·rename_i c
   cases h; exact⟨_,_,rx.int_,ry.int_,⟨c.1,c.2⟩,k F _ H (.refl tk) (.int _)⟩
  ·cases h
 ·cases h
theorem o_lt:Op2 (rI0 λi j=> .bl (decide (i<j))) φLt:=by
 intro F H x y s t u Q tk rx ry h k
 unfold φLt at h
 split at h
 ·cases h; exact⟨_,_,rx.int_,ry.int_,k F _ H (.refl tk) (.bl _)⟩
 ·cases h
theorem o_le:Op2 (rI0 λi j=> .bl (decide (i<=j))) φLe:=by
 intro F H x y s t u Q tk rx ry h k
 unfold φLe at h
 split at h
 ·cases h; exact⟨_,_,rx.int_,ry.int_,k F _ H (.refl tk) (.bl _)⟩
 ·cases h
theorem o_gt:Op2 (rI0 λi j=> .bl (decide (j<i))) φGt:=by
 intro F H x y s t u Q tk rx ry h k
 unfold φGt at h
 split at h
 ·cases h; exact⟨_,_,rx.int_,ry.int_,k F _ H (.refl tk) (.bl _)⟩
 ·cases h
theorem o_len {K:Aa3}:OpN (λxs H Q=>∃x n,xs=[x]/\LenV K x H n/\Q (.int n) H) φLen:=by
 intro F H xs ts u Q tk r h k
 unfold φLen at h
 split at h
 ·obtain⟨x,rfl,rx⟩:=Rbs.one r
  obtain⟨a,ys,rfl,ha,ry⟩:=rx.lst_
  cases h
  exact⟨_,_,rfl,.inl ⟨ys,SqL.of ha,rfl⟩,by rw [ry.length]; exact k F _ H (.refl tk) (.int _)⟩
 ·obtain⟨x,rfl,rx⟩:=Rbs.one r
  obtain⟨a,ys,rfl,ha,ry⟩:=rx.tup_
  cases h
  exact⟨_,_,rfl,.inr ⟨ys,SqT.of ha,rfl⟩,by rw [ry.length]; exact k F _ H (.refl tk) (.int _)⟩
 ·obtain⟨x,rfl,rx⟩:=Rbs.one r
  cases rx.str_
  split at h
  ·cases h
   exact⟨_,_,rfl,⟨fS0 (by assumption),rfl⟩,k F _ H (.refl tk) (.int _)⟩
  ·cases h
 ·obtain⟨x,rfl,rx⟩:=Rbs.one r
  obtain⟨a,o,rfl,ha⟩:=rx.scr_
  cases h
  exact⟨_,_,rfl,.inl ⟨_,.inl (.inr ⟨o,ha⟩),rfl⟩,by rw [Aa1]; exact k F _ H (.refl tk) (.int _)⟩
 ·cases h
theorem pU0 {K:Aa3}:OpN (λxs H Q=>∃p ys,xs=[.ref p]/\((SqL K H p ys/\∀l,H l=none->Q (.ref l) (upd H l (.tup ys)))\/ (SqT K H p ys/\Q (.ref p) H))) bw0:=by
 intro F H xs ts u Q tk r h k
 unfold bw0 at h
 split at h
 ·obtain⟨x,rfl,rx⟩:=Rbs.one r
  obtain⟨a,ys,rfl,ha,ry⟩:=rx.lst_
  cases h
  exact⟨_,_,rfl,.inl ⟨SqL.of ha,λl hl=>k F _ _ (Mono.laid tk hl) (.tup ag0 (ry.laid hl tk))⟩⟩
 ·obtain⟨x,rfl,rx⟩:=Rbs.one r
  obtain⟨a,ys,rfl,ha,ry⟩:=rx.tup_
  cases h
  exact⟨_,_,rfl,.inr ⟨SqT.of ha,k F _ H (.refl tk) (.tup ha ry)⟩⟩
 ·cases h
theorem rp0 {K:Aa3}:OpNF (λxs H Q=>∃p ys,xs=[.ref p]/\(SqL K H p ys\/ SqT K H p ys)/\∀l,H l=none->Q (.ref l) (upd H l (.lst ys))) gi0:=by
 intro F H xs ts u Q tk r h k
 unfold gi0 at h
 split at h
 ·obtain⟨x,rfl,rx⟩:=Rbs.one r
  obtain⟨a,ys,rfl,ha,ry⟩:=rx.lst_
  cases h
  exact⟨_,_,rfl,.inl (SqL.of ha),λl hl=>k F _ _ (Mono.laid tk hl) hl (Trk.new tk hl) (.lst ag0 (ry.laid hl tk))⟩
 ·obtain⟨x,rfl,rx⟩:=Rbs.one r
  obtain⟨a,ys,rfl,ha,ry⟩:=rx.tup_
  cases h
  exact⟨_,_,rfl,.inr (SqT.of ha),λl hl=>k F _ _ (Mono.laid tk hl) hl (Trk.new tk hl) (.lst ag0 (ry.laid hl tk))⟩
 ·cases h
theorem rj0:OpN (λxs H Q=>∃i j,xs=[.int i,.int j]/\Q (.int (if j<i then j else i)) H) ed0:=by
 intro F H xs ts u Q tk r h k
 unfold ed0 at h
 split at h
 ·obtain⟨x,y,rfl,rx,ry⟩:=Rbs.two r
  cases rx.int_; cases ry.int_; cases h
  exact⟨_,_,rfl,k F _ H (.refl tk) (.int _)⟩
 ·cases h
theorem ru0:OpN (λxs H Q=>∃i j,xs=[.int i,.int j]/\Q (.int (if j>i then j else i)) H) kx0:=by
 intro F H xs ts u Q tk r h k
 unfold kx0 at h
 split at h
 ·obtain⟨x,y,rfl,rx,ry⟩:=Rbs.two r
  cases rx.int_; cases ry.int_; cases h
  exact⟨_,_,rfl,k F _ H (.refl tk) (.int _)⟩
 ·cases h
theorem o_ix {K:Aa3}:Op2 (rIx K) φIx:=by
 intro F H x y s t u Q tk rx ry h k
 unfold φIx at h
 split at h
 ·obtain⟨a,ys,rfl,ha,r⟩:=rx.lst_
  obtain⟨z,h1,h2⟩:=r.atI h
  exact .inl ⟨a,ys,_,z,rfl,ry.int_,SqL.of ha,h1,k F _ H (.refl tk) h2⟩
 ·obtain⟨a,ys,rfl,ha,r⟩:=rx.tup_
  obtain⟨z,h1,h2⟩:=r.atI h
  exact .inr (.inl ⟨a,ys,_,z,rfl,ry.int_,SqT.of ha,h1,k F _ H (.refl tk) h2⟩)
 ·rename_i ns i
  obtain⟨a,o,rfl,ha⟩:=rx.scr_
  cases q:L2.atI ns i with
  |none=>rw [q] at h; cases h
  |some z=>
   rw [q] at h
   cases h
   exact .inl ⟨a,_,_,.int z,rfl,ry.int_,.inl (.inr ⟨o,ha⟩),pT0 q,k F _ H (.refl tk) (.int z)⟩
 ·cases h
end
section
variable {X:Cx}{Y:Fx}{e a b:Expr}{pos:Pos}{f g:En->Option T}
theorem az0 (ha:BE X Y a f)(hb:BE X Y b g)(hs:lb0 b:=by intro _ _; rfl):SE X Y (.Subscript a b pos) (e2 φIx f g):=PE.imp (gy0 rk0 ha hb hs) (nJ0 o_ix)
end
def fN0 (J:It)(F₀:Addr->Prop)(H₀:Hp)(ts:List T):Prop:=∀(i:Nat) F H,Keep F₀ H₀ F H->Trk F H->
 (∀t,ts[i]?=some t->J.go i H/\∀x H',J.yld i H x H'->∃F',Mono F H F' H'/\Rp F' H' x t)/\(i=ts.length->J.stop i H)
def TrI (Y:Fx)(f:En->Option (List T)):TI:=λσ H R=>∃F ε ts,Rel Y F ε σ H/\f ε=some ts/\∀F' H' J,Mono F H F' H'->fN0 J F' H' ts->R J H'
abbrev SI (X:Cx)(Y:Fx)(tg e:Expr)(f:En->Option (List T)):Prop:=PI X tg e (TrI Y f)
theorem PI.imp {t t':TI}(h:PI X tg e t)(i:∀σ H R,t' σ H R->t σ H R):PI X tg e t':=λpins s σ H R I q=>h pins s σ H R I (i σ H R q)
def TrG (Y:Fx)(bd:T->En->Option En):TG:=λv σ H Q=>∃F ε t ε',Rel Y F ε σ H/\Rp F H v t/\bd t ε=some ε'/\∀σ',Rel Y F ε' σ' H->Q σ' H
abbrev SG (X:Cx)(Y:Fx)(tg:Expr)(bd:T->En->Option En):Prop:=PG X tg (TrG Y bd)
theorem PG.imp {t t':TG}(h:PG X tg t)(i:∀v σ H Q,t' v σ H Q->t v σ H Q):PG X tg t':=λpins s σ H v u Q I r q=>h pins s σ H v u Q I r (i v σ H Q q)
def aq0 (i:Nat)(t:T)(ε:En):Option En:=some (ε.set i (.sh t))
def cu0 (i j:Nat)(t:T)(ε:En):Option En:=match t with| .tup [a,b]=>some ((ε.set i (.sh a)).set j (.sh b))|_=>none
def jC0 (i j k:Nat)(t:T)(ε:En):Option En:=match t with| .tup [a,b,c]=>some (((ε.set i (.sh a)).set j (.sh b)).set k (.sh c))|_=>none
section
variable {X:Cx}{Y:Fx}{tg e iter:Expr}{pos:Pos}
theorem bE0 (h:PG X (.Name x pos) (cr0 i)):SG X Y (.Name x pos) (aq0 i):=PG.imp h λv σ H Q ⟨F,ε,t,ε',r,rv,hb,k⟩=>by
 cases hb
 exact k _ (r.set_sh rv)
theorem ld0 (h:PG X (.Tuple es k pos) (gTup X.K 2 (fx0 (cr0 i) (fx0 (cr0 j) gNil)))):SG X Y (.Tuple es k pos) (cu0 i j):=PG.imp h λv σ H Q ⟨F,ε,t,ε',r,rv,hb,k⟩=>by
 unfold cu0 at hb
 split at hb
 ·cases hb
  obtain⟨a,xs,rfl,ha,rs⟩:=(Rb.v rv).tup_
  obtain⟨x,y,rfl,rx,ry⟩:=rs.two
  exact⟨a,_,rfl,SqT.of ha,rfl,x,_,rfl,y,_,rfl,rfl,k _ ((r.set_sh rx).set_sh ry)⟩
 ·cases hb
theorem qM0 (h:PG X (.Tuple es k pos) (gTup X.K 3 (fx0 (cr0 i) (fx0 (cr0 j) (fx0 (cr0 l) gNil))))):SG X Y (.Tuple es k pos) (jC0 i j l):=PG.imp h λv σ H Q ⟨F,ε,t,ε',r,rv,hb,k⟩=>by
 unfold jC0 at hb
 split at hb
 ·cases hb
  obtain⟨a,xs,rfl,ha,rs⟩:=(Rb.v rv).tup_
  cases rs with
  |cons rx rs=>
   obtain⟨y,z,rfl,ry,rz⟩:=rs.two
   exact⟨a,_,rfl,SqT.of ha,rfl,_,_,rfl,y,_,rfl,z,_,rfl,rfl,k _ (((r.set_sh rx).set_sh ry).set_sh rz)⟩
 ·cases hb
def iLst (f:En->Option T):En->Option (List T):=λε=>match f ε with|some (.lst ts)=>some ts|_=>none
def iTpl (f:En->Option T):En->Option (List T):=λε=>match f ε with|some (.tup ts)=>some ts|_=>none
theorem be0 {f:En->Option T}(h:SE X Y e f):SI X Y tg e (iLst f):=PI.imp (dy0 h) λσ H R ⟨F,ε,ts,r,hf,k⟩=>by
 unfold iLst at hf
 split at hf
 ·cases hf
  refine⟨F,ε,_,r,by assumption,λF1 v H1 m1 r1=> ?_⟩
  cases r1 with
  | @lst a xs _ fa ha rs=>
   refine⟨a,rfl,⟨xs,SqL.of ha⟩,k F1 H1 _ m1 λi F2 H2 kp tk=>⟨λt e=> ?_,λe=>⟨xs,SqL.of (kp.frz a _ fa ha),by rw [rs.length,e]; exact Ab1 _⟩⟩⟩
   obtain⟨x,hx,rx⟩:=rs.get e
   have sq:SqL X.K H2 a xs:=SqL.of (kp.frz a _ fa ha)
   exact⟨⟨xs,x,sq,hx⟩,λy H3 hy=>by
    obtain⟨rfl,hy⟩:=hy
    have e2:=hy xs sq
    rw [hx] at e2
    cases e2
    exact⟨F2,.refl tk,rx.keep kp⟩⟩
 ·cases hf
theorem fz0 {f:En->Option T}(h:SE X Y e f):SI X Y tg e (iTpl f):=PI.imp (rs0 h) λσ H R ⟨F,ε,ts,r,hf,k⟩=>by
 unfold iTpl at hf
 split at hf
 ·cases hf
  refine⟨F,ε,_,r,by assumption,λF1 v H1 m1 r1=> ?_⟩
  cases r1 with
  | @tup a xs _ ha rs=>
   refine⟨a,rfl,⟨xs,SqT.of ha⟩,k F1 H1 _ m1 λi F2 H2 kp tk=>⟨λt e=> ?_,λe=>⟨xs,SqT.of (kp.tup a _ ha),by rw [rs.length,e]; exact Ab1 _⟩⟩⟩
   obtain⟨x,hx,rx⟩:=rs.get e
   have sq:SqT X.K H2 a xs:=SqT.of (kp.tup a _ ha)
   exact⟨⟨xs,x,sq,hx⟩,λy H3 hy=>by
    obtain⟨rfl,hy⟩:=hy
    have e2:=hy xs sq
    rw [hx] at e2
    cases e2
    exact⟨F2,.refl tk,rx.keep kp⟩⟩
 ·cases hf
def bl0 (lo:Int)(n:Nat):List T:=(List.range n).map λ(k:Nat)=>T.int (lo+(k:Int))
theorem fT0 {lo:Int}{n i:Nat}{t:T}(h:(bl0 lo n)[i]?=some t):i<n/\t=.int (lo+i):=by
 unfold bl0 at h
 rw [Ab0] at h
 by_cases hi:i<n
 ·rw [Ar6 hi] at h
  exact⟨hi,(Option.some.inj h).symm⟩
 ·rw [Ai9 (by simpa using hi)] at h
  cases h
theorem bG0 (lo:Int)(n:Nat):(bl0 lo n).length=n:=by unfold bl0; rw [Aa1,Ag8]
theorem eu0 {F:Addr->Prop}(lo:Int)(n:Nat):fN0 (Itr lo n) F H (bl0 lo n):=λi F1 H1 kp tk=>by
 refine⟨λt e=> ?_,λe=> ?_⟩
 ·obtain⟨hi,rfl⟩:=fT0 e
  exact⟨hi,λx H' ⟨e1,e2⟩=>by subst e1 e2; exact⟨F1,.refl tk,.int _⟩⟩
 ·rw [bG0] at e
  exact Aw3 e.symm
def aY0 (g:En->Option (List T)):En->Option (List T):=λε=>match g ε with|some [.int j]=>if -(2^62)<=j/\j<2^62 then some (bl0 0 j.toNat) else none|_=>none
theorem bW0 {g:En->Option (List T)}(hg:Gl X "range") (hm:X.mg "range" =none) (ha:BA X Y [a] g) (hs:starEach [a] X.env=[(false,eval a X.env)]:=by rfl):SI X Y tg (.Call (.Name "range" p) [a] [] pos) (aY0 g):=PI.imp (eX0 hg hm ha hs) λσ H R ⟨F,ε,ts,r,hf,k⟩=>by
 unfold aY0 at hf
 split at hf
 ·split at hf
  ·rename_i c
   cases hf
   refine⟨F,ε,_,r,by assumption,λF1 vs H1 m1 r1=> ?_⟩
   obtain⟨x,rfl,rx⟩:=Rbs.one r1
   cases rx.int_
   exact⟨_,rfl,c.1,c.2,k F1 H1 _ m1 (eu0 0 _)⟩
  ·cases hf
 ·cases hf
def cz0 (bd:T->En->Option En)(body:En->Option Fl):List T->En->Option Fl
 | [],ε=>some (.nx ε)
 |t::ts,ε=>(bd t ε).bind λε1=>(body ε1).bind λfl=>match fl with
  | .nx ε'=>cz0 bd body ts ε'
  | .ct ε'=>cz0 bd body ts ε'
  | .bk ε'=>some (.nx ε')
  | .rt o t=>some (.rt o t)
  | .xc C=>some (.xc C)
def sFor (f:En->Option (List T))(bd:T->En->Option En)(body:En->Option Fl):En->Option Fl:=λε=>(f ε).bind λts=>cz0 bd body ts ε
theorem bQ0 {f:En->Option (List T)}{bd:T->En->Option En}{g:En->Option Fl}(hp:PassesOwn (model X.prog X.w) X.A X.env X.xe)(hc:X.calm=true)(hi:SI X Y tg iter f)(hg:SG X Y tg bd)(hb:SSs X Y body g)
  (hs:∀x,foldedSetIterable iter X.env x=pure x:=by intro _; rfl):SS X Y (.For tg iter body [] pos) (sFor f bd g):=PS.imp (fL0 hp hc hi hg hb hs) λD σ H ⟨F,ε,fl,r,hf,k⟩=>by
 unfold sFor at hf
 cases q:f ε with
 |none=>rw [q] at hf; cases hf
 |some ts=>
  rw [q] at hf
  have hf:cz0 bd g ts ε=some fl:=hf
  refine⟨F,ε,ts,r,q,λF1 H1 J m1 yl=> ?_⟩
  refine⟨λi m σ H=>m=ts.length - i/\i<=ts.length/\∃F2 ε2,Rel Y F2 ε2 σ H/\Keep F1 H1 F2 H/\cz0 bd g (ts.drop i) ε2=some fl,⟨ts.length,by simp,Ae5 _,F1,ε,r.mono m1,Keep.refl,by simpa using hf⟩,?_⟩
  rintro i m σ2 H2 ⟨rfl,hi,F2,ε2,r2,k2,l2⟩
  obtain⟨y1,y2⟩:=yl i F2 H2 k2 r2.trk
  have post:Post Y D F2 H2 fl:=(k.keep m1.keep).keep k2
  by_cases hlt:i<ts.length
  ·have e:ts[i]?=some ts[i]:=by simp [hlt]
   obtain⟨go,yld⟩:=y1 _ e
   have hd:ts.drop i=ts[i]::ts.drop (i+1):=Aj8 hlt
   rw [hd] at l2
   unfold cz0 at l2
   cases qb:bd ts[i] ε2 with
   |none=>rw [qb] at l2; cases l2
   |some ε3=>
    rw [qb] at l2
    simp only [Aa2] at l2
    cases qg:g ε3 with
    |none=>rw [qg] at l2; cases l2
    |some fl3=>
     rw [qg] at l2
     simp only [Aa2] at l2
     refine .inr ⟨go,λσ' H'=>i+1<=ts.length/\∃F4 ε4,Rel Y F4 ε4 σ' H'/\Keep F1 H1 F4 H'/\cz0 bd g (ts.drop (i+1)) ε4=some fl,λσ' H' ⟨h1,h2⟩=>⟨ts.length - (i+1),by omega,rfl,h1,h2⟩,λx H' y=> ?_⟩
     obtain⟨F3,m3,rx⟩:=yld x H' y
     refine⟨F3,ε2,_,ε3,r2.mono m3,rx,qb,λσ3 r3=>⟨F3,ε3,fl3,r3,qg,?_⟩⟩
     have post3:Post Y D F3 H' fl:=post.keep m3.keep
     cases fl3 with
     |nx ε4=>exact λF4 σ4 H4 k4 r4=>⟨hlt,F4,ε4,r4,(k2.trans m3.keep).trans k4,l2⟩
     |ct ε4=>exact λF4 σ4 H4 k4 r4=>⟨hlt,F4,ε4,r4,(k2.trans m3.keep).trans k4,l2⟩
     |bk ε4=>cases l2; exact λF4 σ4 H4 k4 r4=>post3 F4 σ4 H4 k4 r4
     |rt o t=>cases l2; exact post3
     |xc C=>cases l2; exact post3
  ·have e:i=ts.length:=by omega
   subst e
   have hd:ts.drop ts.length=[]:=List.drop_length
   rw [hd] at l2
   cases l2
   exact .inl ⟨y2 rfl,post F2 σ2 H2 Keep.refl r2⟩
def ey0 (n:Nat)(ε:En)(bd:T->En->Option En)(p:En->Option Bool)(f:En->Option T):List T->Option (List T)
 | []=>some []
 |t::ts=>(bd t (List.replicate n .un++ε)).bind λε1=>(p ε1).bind λb=>if b=true then(f ε1).bind λy=>(ey0 n ε bd p f ts).bind λys=>some (y::ys) else ey0 n ε bd p f ts
def ba0 (n:Nat)(it:En->Option (List T))(bd:T->En->Option En)(p:En->Option Bool)(f:En->Option T):En->Option T:=λε=>(it ε).bind λts=>if ts.length<=big then(ey0 n ε bd p f ts).map .lst else none
theorem Rel.block {F:Addr->Prop}(r:Rel Y F ε σ H)(n:Nat):Rel Y F (List.replicate n .un++ε) (List.replicate n none++σ) H:=by
 have gE:∀(i:Nat) (z:Sl),(List.replicate n Sl.un++ε)[i]?=some z->z≠ .un->n<=i/\ε[i - n]?=some z:=λi z e hz=>by
  by_cases hi:i<n
  ·rw [Ab3 (by simpa using hi),Af5,if_pos hi] at e
   exact absurd (Option.some.inj e).symm hz
  ·rw [Ab9 (by simpa using hi),Af3] at e
   exact⟨by omega,e⟩
 have gS:∀i,n<=i->(List.replicate n none++σ)[i]?=σ[i - n]?:=λi hi=>by
  rw [Ab9 (by simpa using hi),Af3]
 refine⟨by rw [Aa5,Aa5,Af3,Af3,r.len],λi t e=> ?_,λi t e=> ?_,λi j t u a ne e1 e2 s1 s2=> ?_,r.same,r.sub,r.new,r.trk,λi t a e hi s1=> ?_,λi v t e=> ?_⟩
 ·obtain⟨hi,e⟩:=gE i _ e nofun
  rw [gS i hi]
  exact r.sh _ t e
 ·obtain⟨hi,e⟩:=gE i _ e nofun
  rw [gS i hi]
  exact r.ow _ t e
 ·obtain⟨hi,e1⟩:=gE i _ e1 nofun
  obtain⟨hj,e2⟩:=gE j _ e2 nofun
  rw [gS i hi] at s1
  rw [gS j hj] at s2
  exact r.inj (i - n) (j - n) t u a (by omega) e1 e2 s1 s2
 ·obtain⟨hj,e⟩:=gE i _ e nofun
  rw [gS i hj] at s1
  exact r.me _ t a e hi s1
 ·obtain⟨hi,e⟩:=gE i _ e nofun
  rw [gS i hi]
  exact r.fx _ v t e
def BdOk (n:Nat)(g:TG)(bd:T->En->Option En):Prop:=∀(Y:Fx) v σ H F ε t ε' (Q:St->Hp->Prop),Rel Y F (List.replicate n .un++ε) (List.replicate n none++σ) H->Rp F H v t->bd t (List.replicate n .un++ε)=some ε'->(∀σ',Rel Y F ε' σ' H->σ'.drop n=σ->Q σ' H)->g v (List.replicate n none++σ) H Q
theorem bo0:BdOk 1 (cr0 0) (aq0 0):=λY v σ H F ε t ε' Q r rv hb k=>by
 cases hb
 exact k _ (r.set_sh rv) rfl
theorem ms0 {K:Aa3}:BdOk 2 (gTup K 2 (fx0 (cr0 0) (fx0 (cr0 1) gNil))) (cu0 0 1):=λY v σ H F ε t ε' Q r rv hb k=>by
 unfold cu0 at hb
 split at hb
 ·cases hb
  obtain⟨a,xs,rfl,ha,rs⟩:=(Rb.v rv).tup_
  obtain⟨x,y,rfl,rx,ry⟩:=rs.two
  exact⟨a,_,rfl,SqT.of ha,rfl,x,_,rfl,y,_,rfl,rfl,k _ ((r.set_sh rx).set_sh ry) rfl⟩
 ·cases hb
theorem mj0 {it:En->Option (List T)}{bd:T->En->Option En}{p:En->Option Bool}{f:En->Option T}(hb:BdOk n g bd)(σ:St)(H:Hp)(Q:VK)(h:TrF Y (ba0 n it bd p f) σ H Q):
  me0 n (TrI Y it) g (TrT Y p) (Tr Y f) σ H Q:=by
 obtain⟨F,ε,u,r,hf,k⟩:=h
 unfold ba0 at hf
 cases q:it ε with
 |none=>rw [q] at hf; cases hf
 |some ts=>
  rw [q] at hf
  simp only [Aa2] at hf
  split at hf
  rotate_left
  ·cases hf
  rename_i hbig
  cases q2:ey0 n ε bd p f ts with
  |none=>rw [q2] at hf; cases hf
  |some us=>
   rw [q2] at hf
   cases hf
   refine⟨F,ε,ts,r,q,λF1 H1 J m1 yl=> ?_⟩
   refine⟨λi m ys H=>m=ts.length - i/\i<=ts.length/\ys.length<=i/\∃F2 us1 us2,us=us1++us2/\Mono F1 H1 F2 H/\Rps F2 H ys us1/\ey0 n ε bd p f (ts.drop i)=some us2,
    ⟨ts.length,by simp,Ae5 _,Ae5 _,F1,[],us,rfl,.refl m1.trk,.nil,by simpa using q2⟩,?_⟩
   rintro i m ys H2 ⟨rfl,hi,hys,F2,us1,us2,rfl,m2,rs,l2⟩
   obtain⟨y1,y2⟩:=yl i F2 H2 m2.keep m2.trk
   by_cases hlt:i<ts.length
   ·have e:ts[i]?=some ts[i]:=by simp [hlt]
    obtain⟨go,yld⟩:=y1 _ e
    have hd:ts.drop i=ts[i]::ts.drop (i+1):=Aj8 hlt
    rw [hd] at l2
    unfold ey0 at l2
    refine .inr ⟨go,λx H' y=> ?_⟩
    obtain⟨F3,m3,rx⟩:=yld x H' y
    have r3:=((r.mono m1).mono (m2.trans m3)).block n
    cases qb:bd ts[i] (List.replicate n .un++ε) with
    |none=>rw [qb] at l2; cases l2
    |some ε3=>
     rw [qb] at l2
     simp only [Aa2] at l2
     cases qp:p ε3 with
     |none=>rw [qp] at l2; cases l2
     |some b=>
      rw [qp] at l2
      simp only [Aa2] at l2
      refine hb Y x σ H' F3 ε ts[i] ε3 _ r3 rx qb λσ3 r4 hσ=>⟨hσ,F3,ε3,b,r4,qp,λF4 H4 m4=> ?_⟩
      have m14:Mono F1 H1 F4 H4:=(m2.trans m3).trans m4
      cases b with
      |false=>
       dsimp only
       rw [if_neg Ab4] at l2 ⊢
       exact⟨_,by omega,rfl,hlt,by omega,F4,us1,us2,rfl,m14,rs.keep (m3.trans m4).keep,l2⟩
      |true=>
       dsimp only
       rw [if_pos rfl] at l2 ⊢
       cases qf:f ε3 with
       |none=>rw [qf] at l2; cases l2
       |some t3=>
        rw [qf] at l2
        simp only [Aa2] at l2
        cases qr:ey0 n ε bd p f (ts.drop (i+1)) with
        |none=>rw [qr] at l2; cases l2
        |some us3=>
         rw [qr] at l2
         cases l2
         refine⟨F4,ε3,t3,r4.mono m4,qf,λF5 v H5 m5 r5=>⟨?_,_,(show ts.length - (i+1)<ts.length - i by omega),rfl,hlt,?_,F5,us1++ [t3],us3,by simp,m14.trans m5,(rs.keep ((m3.trans m4).trans m5).keep).append (.cons r5 .nil),(by first|exact qr|rfl)⟩⟩
         ·exact ne0 (by omega)
         ·rw [Aa5,Ab5]; omega
   ·have e:i=ts.length:=by omega
    subst e
    have hd:ts.drop ts.length=[]:=List.drop_length
    rw [hd] at l2
    cases l2
    refine .inl ⟨y2 rfl,λpp hp=> ?_⟩
    rw [Ag7] at k
    exact k F2 _ _ ((m1.trans m2).trans (Mono.laid m2.trk hp)) ((m1.trans m2).free hp) (Trk.new m2.trk hp) (.lst ag0 (rs.laid hp m2.trk))
section
variable {scope:Scope}{own:List Str}{elt:Expr}{ifs:List Expr}{g:TG}{it:En->Option (List T)}{bd:T->En->Option En}{p:En->Option Bool}{f:En->Option T}
abbrev Blk (X:Cx)(own:List Str)(scope:Scope)(C:Addr)(s:Shared)(H:Hp)(fp:List Addr):Cx:=blk X (own++hide own X.N) scope C s H fp
theorem by0 (hc:X.calm=true)(ck:er0 scope own X.N X.env.scope=true)(hi:SI X Y tg iter it)(hb:BdOk own.length g bd)
  (hg:∀C s₂ H₂ fp,PG (Blk X own scope C s₂ H₂ fp) tg g) (ht:∀C s₂ H₂ fp,PIf (Blk X own scope C s₂ H₂ fp) ifs (TrT Y p)) (he:∀C s₂ H₂ fp,SE (Blk X own scope C s₂ H₂ fp) Y elt f)
  (hs:∀x,foldedSetIterable iter X.env x=pure x:=by intro _; rfl):FE X Y (.ListComp elt [⟨tg,iter,ifs,0⟩] scope pos) (ba0 own.length it bd p f):=PE.imp (ej0 hc ck hi hg ht he hs) (mj0 hb)
theorem gk0 {py spos:Pos}(hN:X.N.Nodup)(hiN:X.N[i]?=some y)(hy:Loc X.env.scope y)(hc:X.calm=true)(ck:er0 scope own X.N X.env.scope=true)(hi:SI X Y tg iter it)(hb:BdOk own.length g bd)
  (hg:∀C s₂ H₂ fp,PG (Blk X own scope C s₂ H₂ fp) tg g) (ht:∀C s₂ H₂ fp,PIf (Blk X own scope C s₂ H₂ fp) ifs (TrT Y p)) (he:∀C s₂ H₂ fp,SE (Blk X own scope C s₂ H₂ fp) Y elt f)
  (hsw:swapsWith (.ListComp elt [⟨tg,iter,ifs,0⟩] scope pos) (some (.Name y py)) spos.line X.env=pure true)
  (hs:∀x,foldedSetIterable iter X.env x=pure x:=by intro _; rfl) (hf:X.fn y=true\/ X.env.scope.names.lookup y=some .local:=by first|exact .inl rfl|exact .inr rfl|assumption):
  SS X Y (.Assign [.Name y py] (.ListComp elt [⟨tg,iter,ifs,0⟩] scope pos) spos) (sSet i (ba0 own.length it bd p f)):=
 gC0 (pu0 hN hiN hy hc ck hi hg ht he hsw hs hf) λσ H Q h=>mj0 hb σ H Q (by
  obtain⟨F,ε,t,r,hf,k⟩:=h
  refine⟨F,ε,t,r,hf,λF' a H' m n nf q=>k _ _ _ (m.freeze n q.there) ((q.keep Keep.freeze rfl).frozen (.inr rfl) ?_)⟩
  unfold ba0 at hf
  cases q:it ε with
  |none=>rw [q] at hf; cases hf
  |some ts=>
   rw [q] at hf
   simp only [Aa2] at hf
   split at hf
   ·cases q2:ey0 own.length ε bd p f ts with
    |none=>rw [q2] at hf; cases hf
    |some us=>rw [q2] at hf; cases hf; rfl
   ·cases hf)
end
def bu0:En->Option Bool:=λ_=>some true
theorem cb0:PIf X [] (TrT Y bu0):=λpins s σ H Q I ⟨F,ε,b,r,hf,k⟩=>by
 cases hf
 exact gn0 pins s σ H Q I (k F H r.refl)
theorem iY0 {p:En->Option Bool}(h:QT X Y c p):PIf X [c] (TrT Y p):=hV0 h
end
def ResC (o:Bool)(H:Hp)(F':Addr->Prop)(H':Hp)(v:V)(t:T):Prop:=
 if o=true then∃a,v=.ref a/\H a=none/\¬F' a/\Rp1 F' H' a t else Rp F' H' v t
def spP (gs:List T->Option (Bool × T)):Sp:=λvs H Q _=>∃F ts o t,Trk F H/\Rps F H vs ts/\gs ts=some (o,t)/\∀F' v H',Mono F H F' H'->ResC o H F' H' v t->Q v H'
def db0 (N:List Str)(ts:List T):En:=ts.map .sh++List.replicate (N.length - ts.length) .un
def dj0:Fl->Option (Bool × T)
 | .rt o t=>some (o,t)
 | .nx _=>some (false,.non)
 |_=>none
theorem fp0 {F:Addr->Prop}(tk:Trk F H)(r:Rps F H vs ts):Rel ⟨H,F,λ_=>True,λ_ _=>False⟩ F (db0 N ts) (start N vs) H where
 len:=by
  unfold db0 start
  rw [Aa5,Aa5,Aa1,Aa1,Af3,Af3,r.length]
 sh:=λi t e=>by
  unfold db0 at e
  by_cases hi:i<ts.length
  ·rw [Ab3 (by simpa using hi),Ab0] at e
   cases q:ts[i]? with
   |none=>rw [q] at e; cases e
   |some t'=>
    rw [q] at e
    have e:Sl.sh t'=.sh t:=Option.some.inj e
    cases e
    obtain⟨x,hx,rx⟩:=r.get q
    refine⟨x,?_,rx⟩
    unfold start
    rw [Ab3 (by rw [Aa1,r.length]; exact hi),Ab0,hx]
    rfl
  ·rw [Ab9 (by simpa using hi),Af5] at e
   split at e<;>cases e
 ow:=λi t e=>by
  exfalso
  unfold db0 at e
  by_cases hi:i<ts.length
  ·rw [Ab3 (by simpa using hi),Ab0] at e
   cases q:ts[i]? with
   |none=>rw [q] at e; cases e
   |some t'=>rw [q] at e; cases e
  ·rw [Ab9 (by simpa using hi),Af5] at e
   split at e<;>cases e
 inj:=λi j t u a ne e _ _ _=>by
  exfalso
  unfold db0 at e
  by_cases hi:i<ts.length
  ·rw [Ab3 (by simpa using hi),Ab0] at e
   cases q:ts[i]? with
   |none=>rw [q] at e; cases e
   |some t'=>rw [q] at e; cases e
  ·rw [Ab9 (by simpa using hi),Af5] at e
   split at e<;>cases e
 same:=λ_ _ h=>h
 sub:=λ_ h=>h
 new:=λ_ h=> .inl h
 trk:=tk
 me:=λi t a e _ _=>by
  exfalso
  unfold db0 at e
  by_cases hi:i<ts.length
  ·rw [Ab3 (by simpa using hi),Ab0] at e
   cases q:ts[i]? with
   |none=>rw [q] at e; cases e
   |some t'=>rw [q] at e; cases e
  ·rw [Ab9 (by simpa using hi),Af5] at e
   split at e<;>cases e
 fx:=λi v t e=>by
  exfalso
  unfold db0 at e
  by_cases hi:i<ts.length
  ·rw [Ab3 (by simpa using hi),Ab0] at e
   cases q:ts[i]? with
   |none=>rw [q] at e; cases e
   |some t'=>rw [q] at e; cases e
  ·rw [Ab9 (by simpa using hi),Af5] at e
   split at e<;>cases e
section
variable {P:Program}{w:World}{K:Aa3}{mg:Str->Option Value}{base:Heap}
theorem aI0 {x qual:Str}{st:Stmt}{f:Addr}{fd:FuncData}{N ps:List Str}{k:Nat}{gs:List T->Option (Bool × T)}(Fn:Fun K x qual st f fd)(S:FnScope N ps (ad0 st))
  (hlen:∀ts r,gs ts=some r->ts.length=ps.length)
  (hbody:∀(cdv:Value) (A:Around) (outer:List Env) (s:Shared) (H:Hp) (E:XK) (F:Addr->Prop),Room k (A.deeper (envOfC qual (ad0 st) s.heap.objs.size f cdv))->
   ∃g,SSs ((cxOf CX0 P w K mg base N qual (ad0 st) f cdv A outer s H E).nox) ⟨H,F,λ_=>True,λ_ _=>False⟩ (br0 st) g/\∀ts o t,gs ts=some (o,t)->(g (db0 N ts)).bind dj0=some (o,t)):FnOk P w K mg base CX0 (k+1) f fd ps (spP gs):=by
 refine Fn.ok S (λvs H Q E h=> ?_) λcdv A outer s H vs Q E hr h=> ?_
 ·obtain⟨F,ts,o,t,_,r,e,_⟩:=h
  rw [r.length]
  exact hlen ts _ e
 ·obtain⟨F,ts,o,t,tk,r,e,q⟩:=h
  obtain⟨g,hg,hv⟩:=hbody cdv A outer s H E F hr
  refine⟨_,hg,?_⟩
  have hv:=hv ts o t e
  cases qg:g (db0 N ts) with
  |none=>rw [qg] at hv; cases hv
  |some fl=>
   rw [qg] at hv
   have hv:dj0 fl=some (o,t):=hv
   refine⟨F,db0 N ts,fl,fp0 tk r,qg,?_⟩
   have mono:∀{F':Addr->Prop} {H':Hp},End ⟨H,F,λ_=>True,λ_ _=>False⟩ F' H'->Mono F H F' H':=λe=>⟨e.same,e.sub,e.new,e.trk⟩
   cases fl with
   |nx ε=>cases hv; exact λF' σ' H' _ rl=>q F' .non H' (mono rl.fin) (show Rp F' H' .non .non from .non)
   |rt o' t'=>
    cases hv
    intro F' v H' en rs
    refine q F' v H' (mono en) ?_
    cases o with
    |false=>exact rs
    |true=>
     obtain⟨a,h1,h2,h3,h4⟩:=(show∃a,v=.ref a/\¬F' a/\H a=none/\Rp1 F' H' a t from rs)
     exact⟨a,h1,h3,h2,h4⟩
   |bk ε=>cases hv
   |ct ε=>cases hv
   |xc C=>cases hv
end
def noD (bt:Bool × T):Option T:=if bt.1 && isD bt.2 then none else some bt.2
def eFn (gs:List T->Option (Bool × T))(g:En->Option (List T)):En->Option T:=λε=>(g ε).bind λts=>(gs ts).bind noD
section
variable {X:Cx}{Y:Fx}{k:Nat}{f C:Addr}{fd:FuncData}{ps:List Str}{x m:Str}{p pos apos:Pos}{e o:Expr}{es:List Expr}{gs:List T->Option (Bool × T)}{fa:En->Option (List T)}{fo:En->Option T}
theorem oQ0 {F F':Addr->Prop}(hn:noD (b,t)=some u)(m:Mono F H F' H')(r:ResC b H F' H' v t):∃F'',Mono F H F'' H'/\Rp F'' H' v u:=by
 unfold noD at hn
 split at hn
 ·cases hn
 rename_i nd
 cases hn
 cases b with
 |false=>exact⟨F',m,r⟩
 |true=>
  obtain⟨a,rfl,n,nf,q⟩:=(show∃a,v=.ref a/\H a=none/\¬F' a/\Rp1 F' H' a t from r)
  exact⟨_,m.freeze n q.there,(q.keep Keep.freeze rfl).frozen (.inr rfl) (by simpa using nd)⟩
theorem tr_fn (σ:St)(H:Hp)(Q:VK)(h:Tr Y (eFn gs fa) σ H Q):nx0 (spP gs) [] E0 (TrA Y fa) σ H Q:=by
 obtain⟨F,ε,u,rl,hf,k⟩:=h
 unfold eFn at hf
 cases q:fa ε with
 |none=>rw [q] at hf; cases hf
 |some ts=>
  rw [q] at hf
  simp only [Aa2] at hf
  cases q2:gs ts with
  |none=>rw [q2] at hf; cases hf
  |some bt=>
   obtain⟨b,t⟩:=bt
   rw [q2] at hf
   have hf:noD (b,t)=some u:=hf
   refine⟨F,ε,ts,rl,q,λF1 vs H1 m1 r1=>⟨F1,ts,b,t,m1.trk,by rw [Ag7]; exact r1,q2,λF2 v H2 m2 r2=> ?_⟩⟩
   obtain⟨F3,m3,r3⟩:=oQ0 hf m2 r2
   exact k F3 v H2 (m1.trans m3) r3
def eFnF (gs:List T->Option (Bool × T))(g:En->Option (List T)):En->Option T:=λε=>(g ε).bind λts=>match gs ts with|some (true,t)=>some t|_=>none
theorem ry0 (σ:St)(H:Hp)(Q:VK)(h:TrF Y (eFnF gs fa) σ H Q):nx0 (spP gs) [] E0 (TrA Y fa) σ H Q:=by
 obtain⟨F,ε,u,rl,hf,k⟩:=h
 unfold eFnF at hf
 cases q:fa ε with
 |none=>rw [q] at hf; cases hf
 |some ts=>
  rw [q] at hf
  simp only [Aa2] at hf
  split at hf
  ·cases hf
   refine⟨F,ε,ts,rl,q,λF1 vs H1 m1 r1=>⟨F1,ts,true,u,m1.trk,by rw [Ag7]; exact r1,by assumption,λF2 v H2 m2 r2=> ?_⟩⟩
   obtain⟨a,rfl,n,nf,q⟩:=(show∃a,v=.ref a/\H1 a=none/\¬F2 a/\Rp1 F2 H2 a u from r2)
   exact k F2 a H2 (m1.trans m2) (m1.free n) nf q
  ·cases hf
theorem se_fn (Fn:FnOk X.prog X.w X.K X.mg X.base CX0 k f fd ps (spP gs))(hr:Room k X.A)(hg:Gl X x)(hm:X.mg x=some (.ref f))(hk:PySem.W.keepIn X.K (.ref f)=true)(hb:Binds X.K fd ps [])(ha:SA X Y (e::es) fa)
  (hdb:(x==("__debug__" :Str))=false:=by decide) (he:starEach (e::es) X.env=(false,eval e X.env)::starEach es X.env:=by rfl) (hpl:(backTo pos (starEach es X.env)).any (·.1)=false:=by rfl):
  SE X Y (.Call (.Name x p) (e::es) [] pos) (eFn gs fa):=PE.imp (bL0 Fn hr hg hm hk hb .nil bf0 ha hdb he hpl) tr_fn
theorem fe_fn (Fn:FnOk X.prog X.w X.K X.mg X.base CX0 k f fd ps (spP gs))(hr:Room k X.A)(hg:Gl X x)(hm:X.mg x=some (.ref f))(hk:PySem.W.keepIn X.K (.ref f)=true)(hb:Binds X.K fd ps [])(ha:SA X Y (e::es) fa)
  (hdb:(x==("__debug__" :Str))=false:=by decide) (he:starEach (e::es) X.env=(false,eval e X.env)::starEach es X.env:=by rfl) (hpl:(backTo pos (starEach es X.env)).any (·.1)=false:=by rfl):
  FE X Y (.Call (.Name x p) (e::es) [] pos) (eFnF gs fa):=PE.imp (bL0 Fn hr hg hm hk hb .nil bf0 ha hdb he hpl) ry0
def dX0 (C:Addr)(m:Str)(gs:List T->Option (Bool × T))(fo:En->Option T)(g:En->Option (List T)):En->Option T:=λε=>match fo ε with
 |some (.ins C' fs)=>if C'=C/\fs.lookup m=none then(g ε).bind λts=>(gs (.ins C' fs::ts)).bind noD else none
 |_=>none
theorem pv0 (σ:St)(H:Hp)(Q:VK)(h:Tr Y (dX0 C m gs fo fa) σ H Q):om0 C m (spP gs) [] E0 (Tr Y fo) (TrA Y fa) σ H Q:=by
 obtain⟨F,ε,u,rl,hf,k⟩:=h
 unfold dX0 at hf
 split at hf
 ·rename_i C' fs qo
  split at hf
  ·rename_i hc
   obtain⟨rfl,hl⟩:=hc
   refine⟨F,ε,_,rl,qo,λF1 v H1 m1 r1=> ?_⟩
   cases hr:r1 with
   | @ins a _ dx fv _ fa' ha rf=>
    refine⟨a,dx,fv,rfl,ha,rf.look_none hl,?_⟩
    cases q:fa ε with
    |none=>rw [q] at hf; cases hf
    |some ts=>
     rw [q] at hf
     simp only [Aa2] at hf
     cases q2:gs (.ins C' fs::ts) with
     |none=>rw [q2] at hf; cases hf
     |some bt=>
      obtain⟨b,t⟩:=bt
      rw [q2] at hf
      have hf:noD (b,t)=some u:=hf
      refine⟨F1,ε,ts,rl.mono m1,q,λF2 vs H2 m2 r2=>⟨F2,.ins C' fs::ts,b,t,m2.trk,by rw [Ag7]; exact .cons (r1.keep m2.keep) r2,q2,λF3 v H3 m3 r3=> ?_⟩⟩
      obtain⟨F4,m4,r4⟩:=oQ0 hf m3 r3
      exact k F4 v H3 ((m1.trans m2).trans m4) r4
  ·cases hf
 ·cases hf
theorem pP0 (ho:SE X Y o fo)(c:Cls X.K C)(hm:Meth X.K C m f)(Fn:FnOk X.prog X.w X.K X.mg X.base CX0 k f fd ps (spP gs))(hr:Room k X.A)(hb:Binds X.K fd ps [])(ha:SA X Y (e::es) fa)
  (hst:starEach (e::es) X.env=(false,eval e X.env)::starEach es X.env:=by rfl) (hpl:(backTo pos (starEach es X.env)).any (·.1)=false:=by rfl)
  (ht:eval (.Call (.Attribute o m apos) (e::es) [] pos) X.env=(do
   let ov<- eval o X.env
   standAt apos.atName
   let (f,first)<- holding [ov] (getMethod ov m pl)
   callWith pos f first (backTo pos (starEach (e::es) X.env)) (backToKw pos (keywordEach [] X.env))):=by rfl):
  SE X Y (.Call (.Attribute o m apos) (e::es) [] pos) (dX0 C m gs fo fa):=PE.imp (bH0 ho c hm Fn hr hb .nil bf0 ha hst hpl ht) pv0
def eFld (C:Addr)(n:Str)(fo:En->Option T):En->Option T:=λε=>match fo ε with
 |some (.ins C' fs)=>if C'=C then fs.lookup n else none
 |_=>none
theorem dl0 (ho:BE X Y o fo)(c:Cls X.K C)(na:NoAttr X.K C m)(hb:attributeBase o m X.env (eval o X.env)=eval o X.env:=by rfl):SE X Y (.Attribute o m pos) (eFld C m fo):=PE.imp (aR0 ho hb) λσ H Q ⟨F,ε,u,rl,hf,k⟩=>by
 unfold eFld at hf
 split at hf
 ·rename_i C' fs qo
  split at hf
  ·rename_i hc
   subst hc
   refine⟨F,ε,_,rl,qo,λF1 v H1 m1 r1=> ?_⟩
   obtain⟨a,dx,xs,rfl,ha,rf⟩:=r1.ins_
   obtain⟨v,h1,h2⟩:=rf.look hf
   exact⟨a,C',dx,xs,v,rfl,ha,c,na,h1,k F1 v H1 m1 h2⟩
  ·cases hf
 ·cases hf
end
def aZ0:T->Bool
 | .non=>true| .bl _=>true| .int _=>true| .str _=>true|_=>false
def toV:T->V
 | .bl b=> .bl b| .int i=> .int i| .str x=> .str x|_=> .non
theorem Rb.flat {F:Addr->Prop}{H:Hp}{v:V}{t:T}(r:Rb F H v t)(h:aZ0 t=true):v=toV t/\ch0 v=true:=by
 cases t with
 |non=>cases r.non_; exact⟨rfl,rfl⟩
 |bl b=>cases r.bl_; exact⟨rfl,rfl⟩
 |int i=>cases r.int_; exact⟨rfl,rfl⟩
 |str x=>cases r.str_; exact⟨rfl,rfl⟩
 |_=>cases h
theorem Rps.flat {F:Addr->Prop}{H:Hp}:∀{xs:List V} {ts:List T},Rps F H xs ts->ts.all aZ0=true->xs=ts.map toV/\xs.all ch0=true
 |_,_,.nil,_=>⟨rfl,rfl⟩
 |_,_,.cons h r,e=>by
  rw [Aj3,Ac8] at e
  obtain⟨h1,h2⟩:=(Rb.v h).flat e.1
  obtain⟨h3,h4⟩:=Rps.flat r e.2
  rw [Ac2,Aj3,<- h1,<- h3,h2,h4]
  exact⟨rfl,rfl⟩
def eqLW (f:T->T->Option Bool):List T->List T->Option Bool
 | [],[]=>some true
 | [],_::_=>some false
 |_::_,[]=>some false
 |a::as,b::bs=>(f a b).bind λx=>(eqLW f as bs).bind λr=>some (x && r)
def eqT:Nat->T->T->Option Bool
 |0,_,_=>none
 |n+1,.tup xs,.tup ys=>eqLW (eqT n) xs ys
 |n+1,.lst xs,.lst ys=>eqLW (eqT n) xs ys
 |_+1,a,b=>if aZ0 a && aZ0 b then some (eqV (toV a) (toV b)) else none
theorem fo0 {f:T->T->Option Bool}(hf:∀t b,f t t=some b->b=true):∀(ts:List T) (b:Bool),eqLW f ts ts=some b->b=true
 | [],b,h=>by cases h; rfl
 |t::ts,b,h=>by
  unfold eqLW at h
  cases q:f t t with
  |none=>rw [q] at h; cases h
  |some x=>
   rw [q] at h
   simp only [Aa2] at h
   cases q2:eqLW f ts ts with
   |none=>rw [q2] at h; cases h
   |some r=>
    rw [q2] at h
    cases h
    rw [hf t x q,fo0 hf ts r q2]
    rfl
theorem ge0 (h:aZ0 t=true):eqV (toV t) (toV t)=true:=by
 cases t<;>simp [toV,eqV,aZ0] at*
theorem fX0:∀(n:Nat) (t:T) (b:Bool),eqT n t t=some b->b=true
 |0,_,_,h=>by cases h
 |n+1,t,b,h=>by
  cases t with
  |tup ts=>exact fo0 (fX0 n) ts b h
  |lst ts=>exact fo0 (fX0 n) ts b h
  |dct kvs=>cases h
  |ins C fs=>cases h
  |exc C=>cases h
  |scr ns=>cases h
  |non=>cases h; rfl
  |bl c=>cases h; exact ge0 (t:=.bl c) rfl
  |int i=>cases h; exact ge0 (t:=.int i) rfl
  |str x=>cases h; exact ge0 (t:=.str x) rfl
theorem fl0:∀{xs ys:List Int},xs.map V.int=ys.map V.int->xs=ys
 | [],[],_=>rfl
 | [],_::_,h=>by cases h
 |_::_,[],h=>by cases h
 |x::xs,y::ys,h=>by
  rw [Ac2,Ac2] at h
  obtain⟨h1,h2⟩:=List.cons.inj h
  rw [V.int.inj h1,fl0 h2]
mutual
theorem Rp.inj {F F':Addr->Prop}{H:Hp}:∀{v:V} {t t':T},Rp F H v t->Rp F' H v t'->t=t'
 |_,_,_,.non,h=>by cases h; rfl
 |_,_,_,.bl _,h=>by cases h; rfl
 |_,_,_,.int _,h=>by cases h; rfl
 |_,_,_,.str _,h=>by cases h; rfl
 |_,_,_,.tup e r,h=>by
  cases h with
  |tup e' r'=>rw [e] at e'; cases e'; rw [Rps.inj r r']
  |lst _ e' _=>rw [e] at e'; cases e'
  |dct _ e' _=>rw [e] at e'; cases e'
  |ins _ e' _=>rw [e] at e'; cases e'
  |exc _ e' _=>rw [e] at e'; cases e'
  |scr _ e'=>rw [e] at e'; cases e'
 |_,_,_,.lst _ e r,h=>by
  cases h with
  |lst _ e' r'=>rw [e] at e'; cases e'; rw [Rps.inj r r']
  |tup e' _=>rw [e] at e'; cases e'
  |dct _ e' _=>rw [e] at e'; cases e'
  |ins _ e' _=>rw [e] at e'; cases e'
  |exc _ e' _=>rw [e] at e'; cases e'
  |scr _ e'=>rw [e] at e'; cases e'
 |_,_,_,.dct _ e r,h=>by
  cases h with
  |dct _ e' r'=>rw [e] at e'; cases e'; rw [Rpk.inj r r']
  |tup e' _=>rw [e] at e'; cases e'
  |lst _ e' _=>rw [e] at e'; cases e'
  |ins _ e' _=>rw [e] at e'; cases e'
  |exc _ e' _=>rw [e] at e'; cases e'
  |scr _ e'=>rw [e] at e'; cases e'
 |_,_,_,.ins _ e r,h=>by
  cases h with
  |ins _ e' r'=>rw [e] at e'; cases e'; rw [Rpf.inj r r']
  |exc _ e' _=>rw [e] at e'; cases e'
  |scr _ e'=>rw [e] at e'; cases e'
  |tup e' _=>rw [e] at e'; cases e'
  |lst _ e' _=>rw [e] at e'; cases e'
  |dct _ e' _=>rw [e] at e'; cases e'
 |_,_,_,.exc _ e c,h=>by
  cases h with
  |exc _ e' c'=>rw [e] at e'; cases e'; rw [c] at c'; cases c'; rfl
  |scr _ e'=>rw [e] at e'; cases e'
  |ins _ e' _=>rw [e] at e'; cases e'
  |tup e' _=>rw [e] at e'; cases e'
  |lst _ e' _=>rw [e] at e'; cases e'
  |dct _ e' _=>rw [e] at e'; cases e'
 |_,_,_,.scr _ e,h=>by
  cases h with
  |scr _ e'=>rw [e] at e'; have z:=HO.lst.inj (HO.frz.inj (Option.some.inj e')).2; rw [fl0 z]
  |exc _ e' _=>rw [e] at e'; cases e'
  |ins _ e' _=>rw [e] at e'; cases e'
  |tup e' _=>rw [e] at e'; cases e'
  |lst _ e' _=>rw [e] at e'; cases e'
  |dct _ e' _=>rw [e] at e'; cases e'
theorem Rps.inj {F F':Addr->Prop}{H:Hp}:∀{v:List V} {t t':List T},Rps F H v t->Rps F' H v t'->t=t'
 |_,_,_,.nil,h=>by cases h; rfl
 |_,_,_,.cons h r,h'=>by cases h' with|cons h2 r2=>rw [Rp.inj h h2,Rps.inj r r2]
theorem Rpk.inj {F F':Addr->Prop}{H:Hp}:∀{v:List (Key × V)} {t t':List (Str × T)},Rpk F H v t->Rpk F' H v t'->t=t'
 |_,_,_,.nil,h=>by cases h; rfl
 |_,_,_,.cons h r,h'=>by cases h' with|cons h2 r2=>rw [Rp.inj h h2,Rpk.inj r r2]
theorem Rpf.inj {F F':Addr->Prop}{H:Hp}:∀{v:List (Str × V)} {t t':List (Str × T)},Rpf F H v t->Rpf F' H v t'->t=t'
 |_,_,_,.nil,h=>by cases h; rfl
 |_,_,_,.cons h r,h'=>by cases h' with|cons h2 r2=>rw [Rp.inj h h2,Rpf.inj r r2]
end
theorem Rb.inj {F:Addr->Prop}{H:Hp}{v:V}{t t':T}(h:Rb F H v t)(h':Rb F H v t'):t=t':=by
 cases h with
 |v h=>
  cases h' with
  |v h'=>exact h.inj h'
  |o h'=>
   cases h' with
   |lst e r=>cases h with
    |lst _ e' r'=>rw [e] at e'; cases e'; rw [r'.inj r]
    |tup e' _=>rw [e] at e'; cases e'
    |dct _ e' _=>rw [e] at e'; cases e'
    |ins _ e' _=>rw [e] at e'; cases e'
    |exc _ e' _=>rw [e] at e'; cases e'
    |scr _ e'=>rw [e] at e'; cases e'
   |dct e r=>cases h with
    |lst _ e' r'=>rw [e] at e'; cases e'
    |tup e' _=>rw [e] at e'; cases e'
    |dct _ e' _=>rw [e] at e'; cases e'
    |ins _ e' _=>rw [e] at e'; cases e'
    |exc _ e' _=>rw [e] at e'; cases e'
    |scr _ e'=>rw [e] at e'; cases e'
   |ins e r=>cases h with
    |lst _ e' r'=>rw [e] at e'; cases e'
    |tup e' _=>rw [e] at e'; cases e'
    |dct _ e' _=>rw [e] at e'; cases e'
    |ins _ e' r'=>rw [e] at e'; cases e'; rw [r'.inj r]
    |exc _ e' _=>rw [e] at e'; cases e'
    |scr _ e'=>rw [e] at e'; cases e'
 |o h=>
  cases h' with
  |v h'=>
   cases h with
   |lst e r=>cases h' with
    |lst _ e' r'=>rw [e] at e'; cases e'; rw [r'.inj r]
    |tup e' _=>rw [e] at e'; cases e'
    |dct _ e' _=>rw [e] at e'; cases e'
    |ins _ e' _=>rw [e] at e'; cases e'
    |exc _ e' _=>rw [e] at e'; cases e'
    |scr _ e'=>rw [e] at e'; cases e'
   |dct e r=>cases h' with
    |lst _ e' r'=>rw [e] at e'; cases e'
    |tup e' _=>rw [e] at e'; cases e'
    |dct _ e' _=>rw [e] at e'; cases e'
    |ins _ e' _=>rw [e] at e'; cases e'
    |exc _ e' _=>rw [e] at e'; cases e'
    |scr _ e'=>rw [e] at e'; cases e'
   |ins e r=>cases h' with
    |lst _ e' r'=>rw [e] at e'; cases e'
    |tup e' _=>rw [e] at e'; cases e'
    |dct _ e' _=>rw [e] at e'; cases e'
    |ins _ e' r'=>rw [e] at e'; cases e'; rw [r'.inj r]
    |exc _ e' _=>rw [e] at e'; cases e'
    |scr _ e'=>rw [e] at e'; cases e'
  |o h'=>
   cases h with
   |lst e r=>cases h' with
    |lst e' r'=>rw [e] at e'; cases e'; rw [r.inj r']
    |dct e' r'=>rw [e] at e'; cases e'
    |ins e' r'=>rw [e] at e'; cases e'
   |dct e r=>cases h' with
    |lst e' r'=>rw [e] at e'; cases e'
    |dct e' r'=>rw [e] at e'; cases e'; rw [r.inj r']
    |ins e' r'=>rw [e] at e'; cases e'
   |ins e r=>cases h' with
    |lst e' r'=>rw [e] at e'; cases e'
    |dct e' r'=>rw [e] at e'; cases e'
    |ins e' r'=>rw [e] at e'; cases e'; rw [r.inj r']
theorem jz0 {f:T->T->Option Bool}:∀{xs ys:List T} {b:Bool},eqLW f xs ys=some b->(∀(j:Nat) x y,xs[j]?=some x->ys[j]?=some y->∃c,f x y=some c)/\
   ∀e:Nat->Bool,(∀(j:Nat) x y,xs[j]?=some x->ys[j]?=some y->f x y=some (e j))->b=((List.range (min xs.length ys.length)).all e && xs.length==ys.length)
 | [],[],b,h=>by cases h; exact⟨λj x y e=>by simp at e,λe _=>by simp⟩
 | [],_::_,b,h=>by cases h; exact⟨λj x y e=>by simp at e,λe _=>by simp⟩
 |_::_,[],b,h=>by cases h; exact⟨λj x y _ e=>by simp at e,λe _=>by simp⟩
 |a::as,c::cs,b,h=>by
  unfold eqLW at h
  cases q:f a c with
  |none=>rw [q] at h; cases h
  |some x=>
   rw [q] at h
   simp only [Aa2] at h
   cases q2:eqLW f as cs with
   |none=>rw [q2] at h; cases h
   |some r=>
    rw [q2] at h
    cases h
    obtain⟨h1,h2⟩:=jz0 q2
    refine⟨λj y z e1 e2=> ?_,λe he=> ?_⟩
    ·cases j with
     |zero=>simp at e1 e2; subst e1 e2; exact⟨x,q⟩
     |succ j=>exact h1 j y z (by simpa using e1) (by simpa using e2)
    ·have e0:=he 0 a c rfl rfl
     rw [q] at e0
     cases e0
     have e1:=h2 (λj=>e (j+1)) λj y z e1 e2=>he (j+1) y z (by simpa using e1) (by simpa using e2)
     rw [e1,Ac4,Ac4,Nat.succ_min_succ,Av1,Aj3,Aw1]
     simp [Function.comp_def,Bool.and_assoc]
section
variable {X:Cx}{pins:List (Addr × Obj)}{σ:St}{H:Hp}{s:Shared}{F:Addr->Prop}
theorem de0 {A:Around}{n:Nat}{xs ys:List V}{ts us:List T}{its jts:List Value}{b:Bool}(I:Inv X pins σ H s)
  (ih:∀(t1 t2:T) (b:Bool) (A:Around) (x y:V) (u v:Value),eqT n t1 t2=some b->A.units+n<cLine->Rb F H x t1->Rb F H y t2->RelV x u->RelV y v->SeqAt.EqAt A s u v b)
  (hu:A.units+(n+1)<cLine) (r1:Rps F H xs ts) (r2:Rps F H ys us) (v1:Vals xs its) (v2:Vals ys jts) (e:eqLW (eqT n) ts us=some b):
  ∃f:Nat->Bool,(∀(j:Nat) (h1:j<its.toArray.size) (h2:j<jts.toArray.size),SeqAt.EqAt A.in1 s its.toArray[j] jts.toArray[j] (f j))/\b=((List.range (min its.toArray.size jts.toArray.size)).all f && its.toArray.size==jts.toArray.size):=by
 obtain⟨h1,h2⟩:=jz0 e
 have l1:its.toArray.size=ts.length:=by rw [Ab8,<- v1.length,r1.length]
 have l2:jts.toArray.size=us.length:=by rw [Ab8,<- v2.length,r2.length]
 refine⟨λj=>match ts[j]?,us[j]? with|some x,some y=>(eqT n x y).getD false|_,_=>false,λj g1 g2=> ?_,?_⟩
 ·have e1:ts[j]?=some ts[j]:=by simp [l1▸g1]
  have e2:us[j]?=some us[j]:=by simp [l2▸g2]
  obtain⟨c,hc⟩:=h1 j _ _ e1 e2
  obtain⟨x,hx,rx⟩:=r1.get e1
  obtain⟨y,hy,ry⟩:=r2.get e2
  obtain⟨u,hu1,ru⟩:=v1.get hx
  obtain⟨v,hv1,rv⟩:=v2.get hy
  have q:=ih _ _ c A.in1 x y u v hc (by show A.units+1+n<cLine; omega) (.v rx) (.v ry) ru rv
  simp only [e1,e2,hc,Ap6]
  have eu:its.toArray[j]=u:=by
   have:its[j]?=some its[j]:=by simp [by simpa using g1]
   rw [this] at hu1
   simpa using hu1
  have ev:jts.toArray[j]=v:=by
   have:jts[j]?=some jts[j]:=by simp [by simpa using g2]
   rw [this] at hv1
   simpa using hv1
  rw [eu,ev]
  exact q
 ·rw [l1,l2]
  exact h2 _ λj x y e1 e2=>by
   obtain⟨c,hc⟩:=h1 j x y e1 e2
   simp only [e1,e2,hc,Ap6]
theorem mi0 (I:Inv X pins σ H s):∀(n:Nat) (t1 t2:T) (b:Bool) (A:Around) (x y:V) (u v:Value),eqT n t1 t2=some b->A.units+n<cLine->Rb F H x t1->Rb F H y t2->RelV x u->RelV y v->SeqAt.EqAt A s u v b:=by
 intro n
 induction n with
 |zero=>intro t1 t2 b A x y u v h; cases h
 |succ n ih=>
  intro t1 t2 b A x y u v h hu r1 r2 ru rv
  have hu0:A.units<cLine:=by omega
  have same:∀{a:Addr},x=.ref a->y=.ref a->SeqAt.EqAt A s u v b:=λ{a} e1 e2=>by
   subst e1 e2
   cases ru; cases rv
   have e:=r1.inj r2
   subst e
   rw [fX0 _ _ _ h]
   exact SeqAt.EqAt.same _
  have flatc:(if aZ0 t1 && aZ0 t2 then some (eqV (toV t1) (toV t2)) else none)=some b->SeqAt.EqAt A s u v b:=λh=>by
   split at h
   ·rename_i hf
    rw [Ac8] at hf
    cases h
    obtain⟨e1,f1⟩:=r1.flat hf.1
    obtain⟨e2,f2⟩:=r2.flat hf.2
    subst e1 e2
    exact pc0 ru rv f1 f2
   ·cases h
  cases t1 with
  |tup xs=>
   cases t2 with
   |tup ys=>
    obtain⟨a,vs,rfl,ha,q1⟩:=r1.tup_
    obtain⟨c,ws,rfl,hc,q2⟩:=r2.tup_
    by_cases hac:a=c
    ·exact same rfl (by rw [hac])
    ·cases ru; cases rv
     obtain⟨its,w1,p1,_⟩:=I.tuple (SqT.of ha)
     obtain⟨jts,w2,p2,_⟩:=I.tuple (SqT.of hc)
     obtain⟨f,hf,e⟩:=de0 (A:=A) I ih hu q1 q2 w1 w2 h
     rw [e]
     exact SeqAt.EqAt.of_refs hac (SeqAt.RcAt.tuples p1 p2 hu0 hf)
   |_=>exact flatc h
  |lst xs=>
   cases t2 with
   |lst ys=>
    obtain⟨a,vs,rfl,ha,q1⟩:=r1.lst_
    obtain⟨c,ws,rfl,hc,q2⟩:=r2.lst_
    by_cases hac:a=c
    ·exact same rfl (by rw [hac])
    ·cases ru; cases rv
     obtain⟨its,w1,p1,_⟩:=I.list (SqL.of ha)
     obtain⟨jts,w2,p2,_⟩:=I.list (SqL.of hc)
     obtain⟨f,hf,e⟩:=de0 (A:=A) I ih hu q1 q2 w1 w2 h
     rw [e]
     by_cases hsz:its.toArray.size=jts.toArray.size
     ·rw [hsz,At4,Ah7,Ak3]
      have:=SeqAt.EqAt.of_refs hac (SeqAt.RcAt.lists p1.isList p2.isList hsz hu0 hf)
      rw [hsz] at this
      exact this
     ·have hb:(its.toArray.size==jts.toArray.size)=false:=by simpa using hsz
      rw [hb,Aj4]
      exact SeqAt.EqAt.of_refs hac (SeqAt.RcAt.lists_lengths p1.isList p2.isList (by simpa using hsz) hu0)
   |_=>exact flatc h
  |dct xs=>exact flatc h
  |ins C fs=>exact flatc h
  |exc C=>exact flatc h
  |scr ns=>exact flatc h
  |non=>exact flatc (by cases t2<;>exact h)
  |bl c=>exact flatc (by cases t2<;>exact h)
  |int i=>exact flatc (by cases t2<;>exact h)
  |str z=>exact flatc (by cases t2<;>exact h)
theorem lY0 (hu:X.A.units+20<cLine):OpR X (compareOp .Eq) (λx y H Q=>∃F t1 t2 b,Rb F H x t1/\Rb F H y t2/\aZ0 t1=false/\eqT 9 t1 t2=some b/\Q (.bl b) H):=by
 intro pins s σ H x y u v Q I ru rv h
 obtain⟨F,t1,t2,b,r1,r2,nf,h,q⟩:=h
 have hu0:X.A.units<cLine:=by omega
 have fin:EP X pins σ Q (.bool b) s:=⟨.bl b,H,I,rfl,q⟩
 have ih:=mi0 (F:=F) I 8
 cases t1 with
 |tup xs=>
  cases t2 with
  |tup ys=>
   obtain⟨a,vs,rfl,ha,q1⟩:=r1.tup_
   obtain⟨c,ws,rfl,hc,q2⟩:=r2.tup_
   cases ru; cases rv
   obtain⟨its,w1,p1,_⟩:=I.tuple (SqT.of ha)
   obtain⟨jts,w2,p2,_⟩:=I.tuple (SqT.of hc)
   obtain⟨f,hf,e⟩:=de0 (A:=X.A) I ih (by omega) q1 q2 w1 w2 h
   rw [e] at fin
   exact SeqAt.eq_tupleAt p1 p2 hu0 hf fin
  |_=>cases h
 |lst xs=>
  cases t2 with
  |lst ys=>
   obtain⟨a,vs,rfl,ha,q1⟩:=r1.lst_
   obtain⟨c,ws,rfl,hc,q2⟩:=r2.lst_
   cases ru; cases rv
   obtain⟨its,w1,p1,_⟩:=I.list (SqL.of ha)
   obtain⟨jts,w2,p2,_⟩:=I.list (SqL.of hc)
   obtain⟨f,hf,e⟩:=de0 (A:=X.A) I ih (by omega) q1 q2 w1 w2 h
   rw [e] at fin
   by_cases hsz:its.toArray.size=jts.toArray.size
   ·rw [<- hsz,At4,Ah7,Ak3] at fin
    exact SeqAt.eq_listAt p1.isList p2.isList hsz hu0 hf fin
   ·have hb:(its.toArray.size==jts.toArray.size)=false:=by simpa using hsz
    rw [hb,Aj4] at fin
    exact SeqAt.eq_list_lengthsAt p1.isList p2.isList (by simpa using hsz) hu0 fin
  |_=>cases h
 |_=>first|(cases nf; done)|(cases h; done)|(cases t2<;>cases h)
theorem oT0 (hu:X.A.units+20<cLine):OpR X (compareOp .NotEq) (λx y H Q=>∃F t1 t2 b,Rb F H x t1/\Rb F H y t2/\aZ0 t1=false/\eqT 9 t1 t2=some b/\Q (.bl (!b)) H):=by
 intro pins s σ H x y u v Q I ru rv h
 obtain⟨F,t1,t2,b,r1,r2,nf,h,q⟩:=h
 have hu0:X.A.units<cLine:=by omega
 have fin:EP X pins σ Q (.bool (!b)) s:=⟨.bl (!b),H,I,rfl,q⟩
 have ih:=mi0 (F:=F) I 8
 cases t1 with
 |tup xs=>
  cases t2 with
  |tup ys=>
   obtain⟨a,vs,rfl,ha,q1⟩:=r1.tup_
   obtain⟨c,ws,rfl,hc,q2⟩:=r2.tup_
   cases ru; cases rv
   obtain⟨its,w1,p1,_⟩:=I.tuple (SqT.of ha)
   obtain⟨jts,w2,p2,_⟩:=I.tuple (SqT.of hc)
   obtain⟨f,hf,e⟩:=de0 (A:=X.A) I ih (by omega) q1 q2 w1 w2 h
   rw [e] at fin
   exact SeqAt.RcNeAt.tuples p1 p2 hu0 hf _ _ _ _ fin
  |_=>cases h
 |lst xs=>
  cases t2 with
  |lst ys=>
   obtain⟨a,vs,rfl,ha,q1⟩:=r1.lst_
   obtain⟨c,ws,rfl,hc,q2⟩:=r2.lst_
   cases ru; cases rv
   obtain⟨its,w1,p1,_⟩:=I.list (SqL.of ha)
   obtain⟨jts,w2,p2,_⟩:=I.list (SqL.of hc)
   obtain⟨f,hf,e⟩:=de0 (A:=X.A) I ih (by omega) q1 q2 w1 w2 h
   rw [e] at fin
   by_cases hsz:its.toArray.size=jts.toArray.size
   ·rw [<- hsz,At4,Ah7,Ak3] at fin
    exact SeqAt.RcNeAt.lists p1.isList p2.isList hsz hu0 hf _ _ _ _ fin
   ·have hb:(its.toArray.size==jts.toArray.size)=false:=by simpa using hsz
    rw [hb,Aj4] at fin
    exact SeqAt.RcNeAt.lists_lengths p1.isList p2.isList (by simpa using hsz) hu0 _ _ _ _ fin
  |_=>cases h
 |_=>first|(cases nf; done)|(cases h; done)|(cases t2<;>cases h)
end
def φEq (s t:T):Option T:=if aZ0 s && aZ0 t then(if scal (toV s) (toV t) then some (.bl (decide (toV s=toV t))) else none) else if aZ0 s then none else(eqT 9 s t).map .bl
def φNe (s t:T):Option T:=if aZ0 s && aZ0 t then(if scal (toV s) (toV t) then some (.bl (!decide (toV s=toV t))) else none) else if aZ0 s then none else(eqT 9 s t).map λb=> .bl (!b)
theorem o_eq:Op2 (λx y H Q=>rEq x y H Q\/ ∃F t1 t2 b,Rb F H x t1/\Rb F H y t2/\aZ0 t1=false/\eqT 9 t1 t2=some b/\Q (.bl b) H) φEq:=by
 intro F H x y s t u Q tk rx ry h k
 unfold φEq at h
 split at h
 ·rename_i hf
  rw [Ac8] at hf
  split at h
  ·cases h
   obtain⟨e1,_⟩:=rx.flat hf.1
   obtain⟨e2,_⟩:=ry.flat hf.2
   subst e1 e2
   exact .inl ⟨by assumption,k F _ H (.refl tk) (.bl _)⟩
  ·cases h
 ·split at h
  ·cases h
  ·rename_i nf
   cases q:eqT 9 s t with
   |none=>rw [q] at h; cases h
   |some b=>rw [q] at h; cases h; exact .inr ⟨F,s,t,b,rx,ry,by simpa using nf,q,k F _ H (.refl tk) (.bl _)⟩
theorem o_ne:Op2 (λx y H Q=>rNe x y H Q\/ ∃F t1 t2 b,Rb F H x t1/\Rb F H y t2/\aZ0 t1=false/\eqT 9 t1 t2=some b/\Q (.bl (!b)) H) φNe:=by
 intro F H x y s t u Q tk rx ry h k
 unfold φNe at h
 split at h
 ·rename_i hf
  rw [Ac8] at hf
  split at h
  ·cases h
   obtain⟨e1,_⟩:=rx.flat hf.1
   obtain⟨e2,_⟩:=ry.flat hf.2
   subst e1 e2
   exact .inl ⟨by assumption,k F _ H (.refl tk) (.bl _)⟩
  ·cases h
 ·split at h
  ·cases h
  ·rename_i nf
   cases q:eqT 9 s t with
   |none=>rw [q] at h; cases h
   |some b=>rw [q] at h; cases h; exact .inr ⟨F,s,t,b,rx,ry,by simpa using nf,q,k F _ H (.refl tk) (.bl _)⟩
section
variable {X:Cx}{Y:Fx}{a b c:Expr}{pos:Pos}{f g h:En->Option T}
theorem hB0 (hu:X.A.units+20<cLine)(ha:BE X Y a f)(hb:BE X Y b g):QT X Y (.Compare a [.Eq] [b] pos) (qB (e2 φEq f g)):=dV0 (op_eq.or (lY0 hu)) o_eq ha hb (cZ0 _)
theorem iv0 (hu:X.A.units+20<cLine)(ha:BE X Y a f)(hb:BE X Y b g):QT X Y (.Compare a [.NotEq] [b] pos) (qB (e2 φNe f g)):=dV0 (op_ne.or (oT0 hu)) o_ne ha hb (cZ0 _)
theorem od0 (hu:X.A.units+20<cLine)(ha:BE X Y a f)(hb:BE X Y b g):SE X Y (.Compare a [.Eq] [b] pos) (e2 φEq f g):=oM0 (op_eq.or (lY0 hu)) o_eq ha hb (cZ0 _)
theorem nI0 (ha:BE X Y a f)(hb:BE X Y b g):QT X Y (.Compare a [.Lt] [b] pos) (qB (e2 φLt f g)):=dV0 pw0 o_lt ha hb (cZ0 _)
theorem qt_gt (ha:BE X Y a f)(hb:BE X Y b g):QT X Y (.Compare a [.Gt] [b] pos) (qB (e2 φGt f g)):=dV0 op_gt o_gt ha hb (cZ0 _)
theorem bF0 (ha:BE X Y a f)(hb:BE X Y b g):SE X Y (.BinOp a .Add b pos) (e2 φAdd f g):=kL0 gT0 o_add ha hb
theorem rQ0 (ha:BE X Y a f)(hb:BE X Y b g):SE X Y (.BinOp a .Sub b pos) (e2 φSub f g):=kL0 rr0 o_sub ha hb
theorem eR0 (ha:BE X Y a f)(hb:BE X Y b g):SE X Y (.BinOp a .Mult b pos) (e2 φMul f g):=kL0 rJ0 o_mul ha hb
theorem bR0 (ha:BE X Y a f)(hb:BE X Y b g):SE X Y (.BinOp a .Mod b pos) (e2 φMod f g):=kL0 rl0 o_mod ha hb
theorem pf0 (ha:BE X Y a f)(hb:BE X Y b g):SE X Y (.BinOp a .FloorDiv b pos) (e2 φDiv f g):=kL0 pJ0 o_div ha hb
def φIn (neg:Bool)(s t:T):Option T:=match t with
 | .lst ts=>if aZ0 s && ts.all aZ0 then some (.bl (if neg then !(ts.any λy=>eqV (toV y) (toV s)) else ts.any λy=>eqV (toV y) (toV s))) else none
 | .tup ts=>if aZ0 s && ts.all aZ0 then some (.bl (if neg then !(ts.any λy=>eqV (toV y) (toV s)) else ts.any λy=>eqV (toV y) (toV s))) else none
 |_=>none
theorem lA0 (x:V)(ts:List T):inV x (ts.map toV)=ts.any λy=>eqV (toV y) x:=by
 unfold inV
 rw [At5]
 rfl
theorem o_in {K:Aa3}(neg:Bool):Op2 (rIn K neg) (φIn neg):=by
 intro F H x y s t u Q tk rx ry h k
 unfold φIn at h
 split at h
 ·split at h
  ·rename_i hf
   rw [Ac8] at hf
   cases h
   obtain⟨a,xs,rfl,ha,r⟩:=ry.lst_
   obtain⟨e1,f1⟩:=rx.flat hf.1
   obtain⟨e2,f2⟩:=r.flat hf.2
   refine⟨a,xs,rfl,.inl (SqL.of ha),f1,f2,?_⟩
   rw [e1,e2,lA0]
   exact k F _ H (.refl tk) (.bl _)
  ·cases h
 ·split at h
  ·rename_i hf
   rw [Ac8] at hf
   cases h
   obtain⟨a,xs,rfl,ha,r⟩:=ry.tup_
   obtain⟨e1,f1⟩:=rx.flat hf.1
   obtain⟨e2,f2⟩:=r.flat hf.2
   refine⟨a,xs,rfl,.inr (SqT.of ha),f1,f2,?_⟩
   rw [e1,e2,lA0]
   exact k F _ H (.refl tk) (.bl _)
  ·cases h
 ·cases h
theorem qt_in (ha:BE X Y a f)(hb:BE X Y b g)(hm:behindInMarks .In b=false:=by with_unfolding_all rfl):QT X Y (.Compare a [.In] [b] pos) (qB (e2 (φIn false) f g)):=dV0 mX0 (o_in false) ha hb hm
theorem nV0 (ha:BE X Y a f)(hb:BE X Y b g)(hm:behindInMarks .NotIn b=false:=by with_unfolding_all rfl):QT X Y (.Compare a [.NotIn] [b] pos) (qB (e2 (φIn true) f g)):=dV0 em0 (o_in true) ha hb hm
theorem kv0 (ha:BE X Y a f)(hb:BE X Y b g)(hm:behindInMarks .NotIn b=false:=by with_unfolding_all rfl):SE X Y (.Compare a [.NotIn] [b] pos) (e2 (φIn true) f g):=oM0 em0 (o_in true) ha hb hm
def dn0 (φ φ':T->T->Option T)(f g h:En->Option T):En->Option T:=λε=>(f ε).bind λs=>(g ε).bind λt=>(φ s t).bind λz=>match z with
 | .bl true=>(h ε).bind λu=>φ' t u
 | .bl false=>some (.bl false)
 |_=>none
theorem iR0 {φ φ':T->T->Option T}(o:Op2 r φ)(o':Op2 r' φ')(σ:St)(H:Hp)(Q:VK)(q:Tr Y (dn0 φ φ' f g h) σ H Q):kY0 r r' (TrB Y f) (TrB Y g) (TrB Y h) σ H Q:=by
 obtain⟨F,ε,u,rl,hf,k⟩:=q
 unfold dn0 at hf
 cases q1:f ε with
 |none=>rw [q1] at hf; cases hf
 |some s=>
  cases q2:g ε with
  |none=>rw [q1] at hf; simp only [Aa2,q2] at hf; cases hf
  |some t=>
   rw [q1] at hf
   simp only [Aa2,q2] at hf
   cases q3:φ s t with
   |none=>rw [q3] at hf; cases hf
   |some z=>
    rw [q3] at hf
    simp only [Aa2] at hf
    refine⟨F,ε,s,rl,q1,λF1 x H1 m1 r1=>⟨F1,ε,t,rl.mono m1,q2,λF2 y H2 m2 r2=> ?_⟩⟩
    refine o F2 H2 x y s t z _ m2.trk (r1.keep m2) r2 q3 λF3 v H3 m3 r3=> ?_
    split at hf
    ·refine⟨true,(Rb.v r3).bl_,?_⟩
     rw [if_pos rfl]
     cases q4:h ε with
     |none=>rw [q4] at hf; cases hf
     |some w=>
      rw [q4] at hf
      simp only [Aa2] at hf
      exact⟨F3,ε,w,rl.mono ((m1.trans m2).trans m3),q4,λF4 y' H4 m4 r4=>o' F4 H4 y y' t w u Q m4.trk (r2.keep (m3.trans m4)) r4 hf λF5 v' H5 m5 r5=>k F5 v' H5 ((((m1.trans m2).trans m3).trans m4).trans m5) r5⟩
    ·cases hf
     refine⟨false,(Rb.v r3).bl_,?_⟩
     rw [if_neg Ab4]
     exact k F3 _ H3 ((m1.trans m2).trans m3) (.bl _)
    ·cases hf
theorem oh0 {φ φ':T->T->Option T}(ho:OpR X (compareOp op) r)(ho':OpR X (compareOp op') r')(o:Op2 r φ)(o':Op2 r' φ')(ha:BE X Y a f)(hb:BE X Y b g)(hc:BE X Y c h)
  (hm:lastMarks [op,op'] [b,c]=false:=by with_unfolding_all rfl):SE X Y (.Compare a [op,op'] [b,c] pos) (dn0 φ φ' f g h):=PE.imp (nm0 ho ho' ha hb hc hm) (iR0 o o')
theorem nz0 {φ φ':T->T->Option T}(ho:OpR X (compareOp op) r)(ho':OpR X (compareOp op') r')(o:Op2 r φ)(o':Op2 r' φ')(ha:BE X Y a f)(hb:BE X Y b g)(hc:BE X Y c h)
  (hm:lastMarks [op,op'] [b,c]=false:=by with_unfolding_all rfl):QT X Y (.Compare a [op,op'] [b,c] pos) (qB (dn0 φ φ' f g h)):=PT.imp (nR0 ho ho' ha hb hc hm) (it0 (iR0 o o'))
def eOr (f g:En->Option T):En->Option T:=λε=>(f ε).bind λz=>match z with| .bl true=>some (.bl true)| .bl false=>g ε|_=>none
def eAnd (f g:En->Option T):En->Option T:=λε=>(f ε).bind λz=>match z with| .bl true=>g ε| .bl false=>some (.bl false)|_=>none
def eNot (f:En->Option T):En->Option T:=λε=>(f ε).bind λz=>match z with| .bl k=>some (.bl (!k))|_=>none
variable {rest:List Expr}
theorem jP0 (ha:SE X Y a f):SE X Y (.BoolOp op [a] pos) f:=jS0 ha
theorem se_or (ha:SE X Y a f)(hb:SE X Y (.BoolOp .Or (b::rest) pos) g):SE X Y (.BoolOp .Or (a::b::rest) pos) (eOr f g):=PE.imp (pe_or ha hb) λσ H Q ⟨F,ε,u,rl,hf,k⟩=>by
 unfold eOr at hf
 cases q1:f ε with
 |none=>rw [q1] at hf; cases hf
 |some z=>
  rw [q1] at hf
  simp only [Aa2] at hf
  refine⟨F,ε,z,rl,q1,λF1 v H1 m1 r1=> ?_⟩
  split at hf
  ·cases hf; exact⟨true,(Rb.v r1).bl_,by rw [if_pos rfl]; exact k F1 _ H1 m1 (.bl _)⟩
  ·exact⟨false,(Rb.v r1).bl_,by rw [if_neg Ab4]; exact⟨F1,ε,u,rl.mono m1,hf,λF2 w H2 m2 r2=>k F2 w H2 (m1.trans m2) r2⟩⟩
  ·cases hf
theorem oL0 (ha:SE X Y a f)(hb:SE X Y (.BoolOp .And (b::rest) pos) g):SE X Y (.BoolOp .And (a::b::rest) pos) (eAnd f g):=PE.imp (iH0 ha hb) λσ H Q ⟨F,ε,u,rl,hf,k⟩=>by
 unfold eAnd at hf
 cases q1:f ε with
 |none=>rw [q1] at hf; cases hf
 |some z=>
  rw [q1] at hf
  simp only [Aa2] at hf
  refine⟨F,ε,z,rl,q1,λF1 v H1 m1 r1=> ?_⟩
  split at hf
  ·exact⟨true,(Rb.v r1).bl_,by rw [if_pos rfl]; exact⟨F1,ε,u,rl.mono m1,hf,λF2 w H2 m2 r2=>k F2 w H2 (m1.trans m2) r2⟩⟩
  ·cases hf; exact⟨false,(Rb.v r1).bl_,by rw [if_neg Ab4]; exact k F1 _ H1 m1 (.bl _)⟩
  ·cases hf
theorem rG0 (ha:SE X Y a f):SE X Y (.UnaryOp .Not a pos) (eNot f):=PE.imp (rA0 ha) λσ H Q ⟨F,ε,u,rl,hf,k⟩=>by
 unfold eNot at hf
 cases q1:f ε with
 |none=>rw [q1] at hf; cases hf
 |some z=>
  rw [q1] at hf
  simp only [Aa2] at hf
  refine⟨F,ε,z,rl,q1,λF1 v H1 m1 r1=> ?_⟩
  split at hf
  ·cases hf; exact⟨_,(Rb.v r1).bl_,k F1 _ H1 m1 (.bl _)⟩
  ·cases hf
theorem qY0 (hg:Gl X x)(hm:X.mg x=some u)(r:RelV v u)(hr:∀F H,Rp F H v t)(hd:(x==("__debug__" :Str))=false:=by decide):SE X Y (.Name x pos) (eC t):=mq0 (pL0 hg hm r hd) hr
end
def tyT:T->Option String
 | .non=>some "NoneType" | .bl _=>some "bool" | .int _=>some "int" | .str _=>some "str" | .tup _=>some "tuple" | .lst _=>some "list" | .dct _=>some "dict" | .ins _ _=>none| .exc _=>none| .scr _=>none
inductive Bty:String->Prop
 |bool:Bty "bool" |int:Bty "int" |str:Bty "str" |list:Bty "list" |tuple:Bty "tuple" |dict:Bty "dict"
def isT (n:String)(t:T):Option Bool:=match t with
 | .non=>some false
 | .bl _=>some (n== "bool" ||n== "int")
 | .int _=>some (n== "int")
 | .str _=>some (n== "str")
 | .tup _=>some (n== "tuple")
 | .lst _=>some (n== "list")
 | .dct _=>some (n== "dict")
 | .ins _ _=>none
 | .exc _=>none
 | .scr _=>none
theorem ty_of {K:Aa3}{F:Addr->Prop}{H:Hp}{v:V}{t:T}{n:String}{b:Bool}(h:Bty n)(r:Rb F H v t)(e:isT n t=some b):∃u,TyOf K H v u/\PySem.W.kitOne K u (.type n)=some b:=by
 cases t with
 |non=>cases r.non_; refine⟨_,.non,?_⟩; cases e; cases h<;>rfl
 |bl c=>cases r.bl_; refine⟨_,.bl c,?_⟩; cases e; cases h<;>rfl
 |int i=>cases r.int_; refine⟨_,.int i,?_⟩; cases e; cases h<;>rfl
 |str x=>cases r.str_; refine⟨_,.str x,?_⟩; cases e; cases h<;>rfl
 |tup ts=>obtain⟨a,xs,rfl,ha,_⟩:=r.tup_; refine⟨_,.tup ha,?_⟩; cases e; cases h<;>rfl
 |lst ts=>obtain⟨a,xs,rfl,ha,_⟩:=r.lst_; refine⟨_,.lst ha,?_⟩; cases e; cases h<;>rfl
 |dct ts=>
  obtain⟨a,xs,rfl,ha,_⟩:=r.dct_
  rcases ha with ha|⟨o,ha⟩
  ·refine⟨_,.dK ha,?_⟩; cases e; cases h<;>rfl
  ·refine⟨_,.fD ha,?_⟩; cases e; cases h<;>rfl
 |ins C fs=>cases e
 |exc C=>cases e
 |scr ns=>cases e
section
variable {X:Cx}{Y:Fx}{e a b:Expr}{es:List Expr}{pos p p2:Pos}{f g:En->Option T}{fa:En->Option (List T)}
theorem hZ0:ds0 X (.builtin "isinstance") (λxs H Q=>∃x n t c,xs=[x,.ty n]/\TyOf X.K H x t/\PySem.W.kitOne X.K t (.type n)=some c/\Q (.bl c) H):=by
 intro pins s σ H xs us Q I r h
 obtain⟨x,n,t,c,rfl,ty,e,q⟩:=h
 obtain⟨u,w',rfl,rx,ry⟩:=nF0 r
 cases ry
 exact lT0 I rx ty e λtk=>⟨.bl c,H,I.tok _,rfl,q⟩
def eIs (n:String)(f:En->Option T):En->Option T:=λε=>(f ε).bind λt=>(isT n t).map .bl
theorem dk0 {n:String}{x:Str}(hn:Bty n)(hg:Gl X "isinstance") (hm:X.mg "isinstance" =none) (hgx:Gl X x) (hmx:X.mg x=none) (hvx:bootBuiltins x=some (.type n)) (ha:BE X Y a f)
  (hv:bootBuiltins "isinstance" =some (.builtin "isinstance"):=by rfl) (hnn:x≠ "__name__" :=by decide) (hdb:(x==("__debug__" :Str))=false:=by decide)
  (he:starEach [a,.Name x p2] X.env=[(false,eval a X.env),(false,eval (.Name x p2) X.env)]:=by rfl) (hpl:(backTo pos (starEach [.Name x p2] X.env)).any (·.1)=false:=by rfl):
  SE X Y (.Call (.Name "isinstance" p) [a,.Name x p2] [] pos) (eIs n f):=
 PE.imp (bV0 hZ0 hg hm hv (ao0 ha (ao0 (px0 (v:=.ty n) hgx hmx hvx rfl hnn hdb) ax0 rfl) he) (by decide) (by decide) he hpl) λσ H Q ⟨F,ε,u,rl,hf,k⟩=>by
  unfold eIs at hf
  cases q:f ε with
  |none=>rw [q] at hf; cases hf
  |some t=>
   rw [q] at hf
   simp only [Aa2] at hf
   cases q2:isT n t with
   |none=>rw [q2] at hf; cases hf
   |some c=>
    rw [q2] at hf
    cases hf
    refine⟨F,ε,t,rl,q,λF1 v H1 m1 r1=> ?_⟩
    obtain⟨u,h1,h2⟩:=ty_of (K:=X.K) hn r1 q2
    exact⟨v,n,u,c,rfl,h1,h2,k F1 _ H1 m1 (.bl c)⟩
theorem bZ0 (hg:Gl X "len") (hm:X.mg "len" =none) (ha:BA X Y [a] fa) (hv:bootBuiltins "len" =some (.builtin "len"):=by rfl) (he:starEach [a] X.env=[(false,eval a X.env)]:=by rfl):SE X Y (.Call (.Name "len" p) [a] [] pos) (ay0 φLen fa):=eE0 op0 o_len hg hm hv ha (by decide) (by decide) he rfl
theorem bJ0 (hg:Gl X "tuple") (hm:X.mg "tuple" =none) (ha:BA X Y [a] fa) (hv:bootBuiltins "tuple" =some (.type "tuple"):=by rfl) (he:starEach [a] X.env=[(false,eval a X.env)]:=by rfl):SE X Y (.Call (.Name "tuple" p) [a] [] pos) (ay0 bw0 fa):=mS0 gg0 pU0 hg hm hv ha (by decide) (by decide) he rfl
theorem nh0 (hg:Gl X "list") (hm:X.mg "list" =none) (ha:BA X Y [a] fa) (hv:bootBuiltins "list" =some (.type "list"):=by rfl) (he:starEach [a] X.env=[(false,eval a X.env)]:=by rfl):FE X Y (.Call (.Name "list" p) [a] [] pos) (ay0 gi0 fa):=gP0 gH0 rp0 hg hm hv ha (by decide) (by decide) he rfl
theorem fY0 (hc:X.calm=true)(hg:Gl X "min") (hm:X.mg "min" =none) (ha:BA X Y [a,b] fa) (hv:bootBuiltins "min" =some (.builtin "min"):=by rfl) (he:starEach [a,b] X.env=(false,eval a X.env)::starEach [b] X.env:=by rfl) (hpl:(backTo pos (starEach [b] X.env)).any (·.1)=false:=by rfl):SE X Y (.Call (.Name "min" p) [a,b] [] pos) (ay0 ed0 fa):=eE0 (ln0 hc) rj0 hg hm hv ha (by decide) (by decide) he hpl
theorem pN0 (hc:X.calm=true)(hg:Gl X "max") (hm:X.mg "max" =none) (ha:BA X Y [a,b] fa) (hv:bootBuiltins "max" =some (.builtin "max"):=by rfl) (he:starEach [a,b] X.env=(false,eval a X.env)::starEach [b] X.env:=by rfl) (hpl:(backTo pos (starEach [b] X.env)).any (·.1)=false:=by rfl):SE X Y (.Call (.Name "max" p) [a,b] [] pos) (ay0 kx0 fa):=eE0 (mF0 hc) ru0 hg hm hv ha (by decide) (by decide) he hpl
def ec0:List T->Option (List Int)
 | []=>some []
 | .int i::ts=>(ec0 ts).map (i:: ·)
 |_=>none
theorem hA0 (ns:List Int):ec0 (ns.map T.int)=some ns:=by
 induction ns with
 |nil=>rfl
 |cons n ns ih=>show (ec0 (ns.map T.int)).map (n:: ·)=_; rw [ih]; rfl
theorem jW0:∀{ts:List T} {ns:List Int},ec0 ts=some ns->ts=ns.map T.int
 | [],ns,h=>by cases h; rfl
 | .int i::ts,ns,h=>by
  have h:(ec0 ts).map (i:: ·)=some ns:=h
  cases q:ec0 ts with
  |none=>rw [q] at h; cases h
  |some ms=>rw [q] at h; cases h; rw [jW0 q]; rfl
theorem Rps.ints {F:Addr->Prop}:∀{xs:List V} {ns:List Int},Rps F H xs (ns.map T.int)->xs=ns.map V.int
 |_,[],h=>by cases h; rfl
 |_,n::ns,h=>by
  cases h with
  |cons h r=>cases h; rw [Rps.ints r]; rfl
def φSum:List T->Option T
 | [.lst ts]=>(ec0 ts).map λns=> .int ns.sum
 |_=>none
theorem Rp1.lst_ {F:Addr->Prop}{H:Hp}{a:Addr}{ts:List T}(h:Rp1 F H a (.lst ts)):∃xs,H a=some (.lst xs)/\Rps F H xs ts:=by
 cases h with|lst h r=>exact⟨_,h,r⟩
theorem Rp1.dct_ {F:Addr->Prop}{H:Hp}{a:Addr}{ts:List (Str × T)}(h:Rp1 F H a (.dct ts)):∃xs,H a=some (.dK xs)/\Rpk F H xs ts:=by
 cases h with|dct h r=>exact⟨_,h,r⟩
theorem Rp1.ins_ {F:Addr->Prop}{H:Hp}{a C:Addr}{ts:List (Str × T)}(h:Rp1 F H a (.ins C ts)):∃dx xs,H a=some (.ins C dx xs)/\Rpf F H xs ts:=by
 cases h with|ins h r=>exact⟨_,_,h,r⟩
def sApp (i:Nat)(f:En->Option T):En->Option Fl:=λε=>match ε[i]? with
 |some (.ow (.lst ts))=>(f ε).bind λt=>if ts.length<big then some (.nx (ε.set i (.ow (.lst (ts++ [t]))))) else none
 |_=>none
theorem eZ0 {px apos cpos:Pos}(hx:PE X (.Name x px) (tVar i))(he:SE X Y e f)
  (hbase:attributeBase (.Name x px) "append" X.env (eval (.Name x px) X.env)=eval (.Name x px) X.env:=by rfl)
  (hfew:((backTo cpos (starEach [e] X.env)).all (λx=> !x.1) && (backToKw cpos (keywordEach [] X.env)).all (λx=>x.1.isSome)
   && decide (([e]:List Expr).length+([]:List Keyword).length+(if([]:List Keyword).isEmpty then 0 else 1)<30))=true:=by rfl)
  (hline:(apos.endLine==cpos.line)=true:=by rfl) (hs:starEach [e] X.env=[(false,eval e X.env)]:=by rfl) (hsw:swapsWith (.Call (.Attribute (.Name x px) "append" apos) [e] [] cpos) none pos.line X.env=pure false:=by rfl):
  SS X Y (.Expr (.Call (.Attribute (.Name x px) "append" apos) [e] [] cpos) pos) (sApp i f):=
 PS.imp (bB0 (fw0 Ae0 Ai2 Ai3 cl0 hx (ao0 he ax0 hs) hbase hfew hline hs rfl) hsw) λD σ H ⟨F,ε,fl,r,hg,k⟩=>by
  unfold sApp at hg
  split at hg
  ·rename_i ts e1
   obtain⟨a,s1,nf,h0,hr⟩:=r.ow i _ e1
   cases q:f ε with
   |none=>rw [q] at hg; cases hg
   |some t=>
    rw [q] at hg
    simp only [Aa2] at hg
    split at hg
    ·rename_i hb
     cases hg
     obtain⟨xs,ha,rs⟩:=hr.lst_
     ·refine⟨_,s1,.inl ⟨rfl,xs,SqL.of ha⟩,F,ε,t,r,q,λF1 v H1 m1 r1=>⟨a,xs,v,rfl,rfl,m1.ext _ _ ha,ne0 (by rw [rs.length]; exact hb),?_⟩⟩
      have hne:∀ys,H1 a≠some (.tup ys):=λys z=>by rw [m1.ext _ _ ha] at z; cases z
      have kp:Keep F1 H1 F1 (upd H1 a (.lst (xs++ [v]))):=by
       have nf1:¬F1 a:=λz=>(m1.new a z).elim nf λw=>by rw [ha] at w; cases w
       exact⟨λ_ h=>h,λb u f q=>by rw [aj0 (λ(z:b=a)=>nf1 (z▸f))]; exact q,λb ys q=>by rw [aj0 (λ(z:b=a)=>hne ys (z▸q))]; exact q⟩
      obtain⟨r2,k2⟩:=(r.mono m1).write (o:=.lst (xs++ [v])) (t':=.lst (ts++ [t])) e1 s1 hne (.lst ag0 (((rs.keep m1.keep).append (.cons r1 .nil)).keep kp))
      exact k F1 σ _ (m1.keep.trans k2) r2
    ·cases hg
  ·cases hg
def sExt (i:Nat)(f:En->Option T):En->Option Fl:=λε=>match ε[i]? with
 |some (.ow (.lst ts))=>(f ε).bind λt=>match t with
  | .lst us=>if ts.length+us.length<=big then some (.nx (ε.set i (.ow (.lst (ts++us))))) else none
  |_=>none
 |_=>none
theorem mt0 {px apos cpos:Pos}(hx:PE X (.Name x px) (tVar i))(he:SE X Y e f)
  (hbase:attributeBase (.Name x px) "extend" X.env (eval (.Name x px) X.env)=eval (.Name x px) X.env:=by rfl)
  (hfew:((backTo cpos (starEach [e] X.env)).all (λx=> !x.1) && (backToKw cpos (keywordEach [] X.env)).all (λx=>x.1.isSome)
   && decide (([e]:List Expr).length+([]:List Keyword).length+(if([]:List Keyword).isEmpty then 0 else 1)<30))=true:=by rfl)
  (hline:(apos.endLine==cpos.line)=true:=by rfl) (hs:starEach [e] X.env=[(false,eval e X.env)]:=by rfl) (hsw:swapsWith (.Call (.Attribute (.Name x px) "extend" apos) [e] [] cpos) none pos.line X.env=pure false:=by rfl):
  SS X Y (.Expr (.Call (.Attribute (.Name x px) "extend" apos) [e] [] cpos) pos) (sExt i f):=
 PS.imp (bB0 (fw0 Ae0 At6 At7 hE0 hx (ao0 he ax0 hs) hbase hfew hline hs rfl) hsw) λD σ H ⟨F,ε,fl,r,hg,k⟩=>by
  unfold sExt at hg
  split at hg
  ·rename_i ts e1
   obtain⟨a,s1,nf,h0,hr⟩:=r.ow i _ e1
   cases q:f ε with
   |none=>rw [q] at hg; cases hg
   |some t=>
    rw [q] at hg
    simp only [Aa2] at hg
    split at hg
    ·split at hg
     ·rename_i us hb
      cases hg
      obtain⟨xs,ha,rs⟩:=hr.lst_
      ·refine⟨_,s1,.inl ⟨rfl,xs,SqL.of ha⟩,F,ε,_,r,q,λF1 v H1 m1 r1=> ?_⟩
       obtain⟨c,zs,rfl,hc,rz⟩:=(Rb.v r1).lst_
       refine⟨a,c,xs,zs,rfl,rfl,m1.ext _ _ ha,hc,fS0 (by rw [rs.length,rz.length]; exact hb),?_⟩
       have hne:∀ys,H1 a≠some (.tup ys):=λys z=>by rw [m1.ext _ _ ha] at z; cases z
       have kp:Keep F1 H1 F1 (upd H1 a (.lst (xs++zs))):=by
        have nf1:¬F1 a:=λz=>(m1.new a z).elim nf λw=>by rw [ha] at w; cases w
        exact⟨λ_ h=>h,λb u f q=>by rw [aj0 (λ(z:b=a)=>nf1 (z▸f))]; exact q,λb ys q=>by rw [aj0 (λ(z:b=a)=>hne ys (z▸q))]; exact q⟩
       obtain⟨r2,k2⟩:=(r.mono m1).write (o:=.lst (xs++zs)) (t':=.lst (ts++us)) e1 s1 hne (.lst ag0 (((rs.keep m1.keep).append rz).keep kp))
       exact k F1 σ _ (m1.keep.trans k2) r2
     ·cases hg
    ·cases hg
  ·cases hg
def φNeg:T->Option T| .int i=>some (.int (-i))|_=>none
theorem sb0 (ha:BE X Y a f):SE X Y (.UnaryOp .USub a pos) (e1 φNeg f):=PE.imp (pe_un oO0 ha) λσ H Q ⟨F,ε,u,rl,hf,k⟩=>by
 unfold e1 at hf
 cases q:f ε with
 |none=>rw [q] at hf; cases hf
 |some t=>
  rw [q] at hf
  refine⟨F,ε,t,rl,q,λF1 v H1 m1 r1=> ?_⟩
  unfold φNeg at hf
  simp only [Aa2] at hf
  split at hf
  ·cases hf; exact⟨_,r1.int_,k F1 _ H1 m1 (.int _)⟩
  ·cases hf
def oN0 (K:Aa3):R2:=λx y H Q=>∃a b xs ys,x=.ref a/\y=.ref b/\SqT K H a xs/\SqT K H b ys/\xs=[]/\Q (.ref b) H
theorem op_catT':OpR X (binaryOp .Add) (oN0 X.K):=by
 intro pins s σ H x y v u Q I rx ry h
 obtain⟨a,b,xs,ys,rfl,rfl,ha,hb,hx,q⟩:=h
 cases rx
 cases ry
 obtain⟨its,r1,p1,_⟩:=I.tuple ha
 obtain⟨its2,r2,p2,_⟩:=I.tuple hb
 subst hx
 cases r1
 obtain⟨⟨cls,dd,data,sl⟩,ho,hc,n,hd⟩:=id p1
 obtain⟨⟨cls2,dd2,data2,sl2⟩,ho2,hc2,n2,hd2⟩:=id p2
 cases hc; cases hd; cases hc2; cases hd2
 exact concat_meets ⟨_,ho,rfl⟩ ⟨_,ho2,rfl⟩ Au2 seq_tuple_add Ap2 Ao7 (Ao0 _ _)
  (tuple_addW0 a b _ _ n n2 dd dd2 sl sl2 rfl) ⟨ho,ho2,⟨.ref b,H,I,rfl,q⟩⟩
def cL0:T->T->Option T| .tup ts,.tup us=>if ts.length+us.length<=big then some (.tup (ts++us)) else none|_,_=>none
theorem rX0 {K:Aa3}:Op2 (λx y H Q=>oN0 K x y H Q\/ rCatT K x y H Q) cL0:=by
 intro F H x y s t u Q tk rx ry h k
 unfold cL0 at h
 split at h
 ·split at h
  ·rename_i hb
   cases h
   obtain⟨a,xs,rfl,ha,r1⟩:=rx.tup_
   obtain⟨b,ys,rfl,hb',r2⟩:=ry.tup_
   cases r1 with
   |nil=>exact .inl ⟨a,b,_,ys,rfl,rfl,SqT.of ha,SqT.of hb',rfl,k F _ H (.refl tk) (.tup hb' r2)⟩
   |cons h1 r1=>
    refine .inr ⟨a,b,_,ys,rfl,rfl,SqT.of ha,SqT.of hb',by simp,fS0 (by have:=r1.length; have:=r2.length; simp at hb ⊢; omega),λz=> ?_,λz pp hp=> ?_⟩
    ·subst z
     cases r2
     rw [Ag7] at k
     exact k F _ H (.refl tk) (.tup ha (.cons h1 r1))
    ·exact k F _ _ (Mono.laid tk hp) (.tup ag0 (((Rps.cons h1 r1).append r2).laid hp tk))
  ·cases h
 ·cases h
theorem eL0 (ha:BE X Y a f)(hb:BE X Y b g):SE X Y (.BinOp a .Add b pos) (e2 cL0 f g):=kL0 (op_catT'.or pE0) rX0 ha hb
def Op2F (r:R2)(φ:T->T->Option T):Prop:=∀F H x y s t u Q,Trk F H->Rb F H x s->Rb F H y t->φ s t=some u->(∀F' a H',Mono F H F' H'->H a=none->¬F' a->Rp1 F' H' a u->Q (.ref a) H')->r x y H Q
theorem rP0 {φ:T->T->Option T}(o:Op2F r φ)(σ:St)(H:Hp)(Q:VK)(h:TrF Y (e2 φ f g) σ H Q):tOp r (TrB Y f) (TrB Y g) σ H Q:=by
 obtain⟨F,ε,u,rl,hf,k⟩:=h
 unfold e2 at hf
 cases q1:f ε with
 |none=>rw [q1] at hf; cases hf
 |some s=>
  rw [q1] at hf
  cases q2:g ε with
  |none=>simp only [Aa2,q2] at hf; cases hf
  |some t=>
   simp only [Aa2,q2] at hf
   refine⟨F,ε,s,rl,q1,λF1 x H1 m1 r1=>⟨F1,ε,t,rl.mono m1,q2,λF2 y H2 m2 r2=> ?_⟩⟩
   exact o F2 H2 x y s t u Q m2.trk (r1.keep m2) r2 hf λF3 c H3 m3 n nf r3=>k F3 c H3 ((m1.trans m2).trans m3) ((m1.trans m2).free n) nf r3
def gr0:T->T->Option T| .lst ts,.lst us=>if ts.length+us.length<=big then some (.lst (ts++us)) else none|_,_=>none
theorem ro0:Op2F rCat gr0:=by
 intro F H x y s t u Q tk rx ry h k
 unfold gr0 at h
 split at h
 ·split at h
  ·rename_i hb
   cases h
   obtain⟨a,xs,rfl,ha,r1⟩:=rx.lst_
   obtain⟨b,ys,rfl,hb',r2⟩:=ry.lst_
   exact⟨a,b,xs,ys,rfl,rfl,ha,hb',fS0 (by rw [r1.length,r2.length]; exact hb),λpp hp=>k F _ _ (Mono.laid tk hp) hp (Trk.new tk hp) (.lst ag0 ((r1.append r2).laid hp tk))⟩
  ·cases h
 ·cases h
theorem io0 (ha:BE X Y a f)(hb:BE X Y b g):FE X Y (.BinOp a .Add b pos) (e2 gr0 f g):=PE.imp (kV0 rF0 ha hb) (rP0 ro0)
theorem sl_tupW:SlR X (λx lo hi H Q=>∃a xs,x=.ref a/\SqT X.K H a xs/\HT.sIx xs.length 0 lo=0/\HT.sIx xs.length xs.length hi=xs.length/\Q (.ref a) H):=by
 intro pins s σ H x v vl vu lo hi sl Q I rx hs pl pu h
 obtain⟨a,xs,rfl,hx,w1,w2,q⟩:=h
 cases rx
 obtain⟨its,r,ht,hz⟩:=I.tuple hx
 have hlen:its.toArray.size=xs.length:=by rw [Ab8]; exact r.length.symm
 refine⟨"tuple",_,PyProof.Rows.slot_tuple_getitem.lookup,ht.typeIs,?_⟩
 obtain⟨os,hos,hcs,hds⟩:=id hs
 have hTs:s.TypeIs (.ref sl) "slice" :=⟨os,hos,hcs⟩
 unfold getItem
 try with_reducible refine Al3 ?_
 first|refine Aa0 (Aa8 ?_)|skip
 refine Aa0 (wpAny_sequenceKey ht.typeIs (by decide) ?_)
 refine Aa0 (Ag1 (name:=Str.ofString "__getitem__") ht.typeIs Aj9 (Ah6 Aj9 ht.typeIs entry_tuple_getitem ?_ (args_tuple_getitem _ _)))
 show wpAny _ _ (Builtin.Tuple.tupleItemsOf (.ref a)>>=_) _ _ s
 refine Aa0 (tupleItemsOf_ ht (Aa0 (Ar0 hTs ?_)))
 rw [if_pos (by decide)]
 refine Aa0 (HT.sliceApplied_gen hs pl pu ?_)
 show wpAny _ _ (if(((HT.sIx its.toArray.size 0 lo:Nat):Int)==0 && (1:Int)==1 && (HT.sIx its.toArray.size its.toArray.size hi - HT.sIx its.toArray.size 0 lo)==its.toArray.size)=true then _ else _) _ _ s
 rw [hlen,w1,w2,if_pos (by simp)]
 have fin:EP X pins σ Q (.ref a) s:=⟨.ref a,H,I,rfl,q⟩
 unfold Builtin.Tuple.tupleIsExact
 first
  |exact Aa0 (Aa0 (Ar0 ht.typeIs (Aa8 (by rw [if_pos (by decide)]; exact Aa0 (An7 (Aa0 (Aa8 (Aa8 ⟨_,rfl,Aa8 fin⟩))))))))
  |exact Aa0 (Aa0 (Ar0 ht.typeIs (Aa8 (by rw [if_pos (by decide)]; exact Aa0 (An7 (Aa8 ⟨_,rfl,Aa8 fin⟩))))))
  |exact Aa0 (Aa0 (Ar0 ht.typeIs (Aa8 (by rw [if_pos (by decide)]; exact Aa0 (An7 (Aa0 (Aa8 ⟨_,rfl,Aa8 fin⟩)))))))
def bk0 (f:Option (En->Option T)):En->Option (Option Int):=λε=>match f with
 |none=>some none
 |some f=>match f ε with|some (.int i)=>some (some i)|_=>none
def TrO (Y:Fx)(f:En->Option (Option Int)):TO:=λσ H Q=>∃F ε o,Rel Y F ε σ H/\f ε=some o/\∀F' H',Mono F H F' H'->Q o H'
theorem dp0:PO X none (TrO Y (bk0 none)):=λpins s σ H Q I ⟨F,ε,o,r,hf,k⟩=>by
 cases hf
 exact iu0 pins s σ H Q I (k F H r.refl)
theorem du0 (h:BE X Y e f):PO X (some e) (TrO Y (bk0 (some f))):=λpins s σ H Q I ⟨F,ε,o,r,hf,k⟩=>by
 refine if0 h pins s σ H Q I ?_
 have hf:(match f ε with|some (.int i)=>some (some i)|_=>none)=some o:=hf
 split at hf
 ·cases hf
  exact⟨F,ε,_,r,by assumption,λF1 v H1 m1 r1=>⟨_,r1.int_,k F1 H1 m1⟩⟩
 ·cases hf
def cutT (ts:List T)(lo hi:Option Int):List T:=(ts.drop (HT.sIx ts.length 0 lo)).take (HT.sIx ts.length ts.length hi - HT.sIx ts.length 0 lo)
def eSlT (f:En->Option T)(lo hi:En->Option (Option Int)):En->Option T:=λε=>match f ε with
 |some (.tup ts)=>(lo ε).bind λl=>(hi ε).bind λh=>some (.tup (cutT ts l h))
 |_=>none
def eSlL (f:En->Option T)(lo hi:En->Option (Option Int)):En->Option T:=λε=>match f ε with
 |some (.lst ts)=>(lo ε).bind λl=>(hi ε).bind λh=>some (.lst (cutT ts l h))
 |_=>none
theorem Rps.cut {F:Addr->Prop}(r:Rps F H xs ts)(lo hi:Option Int):Rps F H (cutV xs lo hi) (cutT ts lo hi):=by
 unfold cutV cutT
 rw [r.length]
 exact(r.drop _).take _
variable {lo hi:Option Expr}{fl fh:En->Option (Option Int)}
theorem jZ0 (ha:BE X Y a f)(hl:PO X lo (TrO Y fl))(hh:PO X hi (TrO Y fh)):SE X Y (.Subscript a (.Slice lo hi none p2) pos) (eSlT f fl fh):=PE.imp (eD0 (sl_tupW.or rS0) ha hl hh) λσ H Q ⟨F,ε,u,rl,hf,k⟩=>by
 unfold eSlT at hf
 split at hf
 ·rename_i ts qf
  cases q1:fl ε with
  |none=>rw [q1] at hf; cases hf
  |some l=>
   cases q2:fh ε with
   |none=>rw [q1] at hf; simp only [Aa2,q2] at hf; cases hf
   |some h=>
    rw [q1] at hf
    simp only [Aa2,q2] at hf
    cases hf
    refine⟨F,ε,_,rl,qf,λF1 v H1 m1 r1=>⟨F1,ε,l,rl.mono m1,q1,λF2 H2 m2=>⟨F2,ε,h,rl.mono (m1.trans m2),q2,λF3 H3 m3=> ?_⟩⟩⟩
    obtain⟨c,xs,rfl,hc,rs⟩:=(r1.keep (m2.trans m3)).tup_
    have m13:Mono F H F3 H3:=(m1.trans m2).trans m3
    by_cases hw:HT.sIx xs.length 0 l=0/\HT.sIx xs.length xs.length h=xs.length
    ·refine .inl ⟨c,xs,rfl,SqT.of hc,hw.1,hw.2,k F3 _ H3 m13 ?_⟩
     have e:cutT ts l h=ts:=by
      unfold cutT
      rw [<- rs.length,hw.1,hw.2,Ar7,Aw4,rs.length,Ae7]
     rw [e]
     exact .tup hc rs
    ·exact .inr ⟨c,xs,rfl,SqT.of hc,hw,λpp hp=>k F3 _ _ (m13.trans (Mono.laid m3.trk hp)) (.tup ag0 ((rs.cut l h).laid hp m3.trk))⟩
 ·cases hf
theorem lB0 (ha:BE X Y a f)(hl:PO X lo (TrO Y fl))(hh:PO X hi (TrO Y fh)):FE X Y (.Subscript a (.Slice lo hi none p2) pos) (eSlL f fl fh):=PE.imp (eD0 ih0 ha hl hh) λσ H Q ⟨F,ε,u,rl,hf,k⟩=>by
 unfold eSlL at hf
 split at hf
 ·rename_i ts qf
  cases q1:fl ε with
  |none=>rw [q1] at hf; cases hf
  |some l=>
   cases q2:fh ε with
   |none=>rw [q1] at hf; simp only [Aa2,q2] at hf; cases hf
   |some h=>
    rw [q1] at hf
    simp only [Aa2,q2] at hf
    cases hf
    refine⟨F,ε,_,rl,qf,λF1 v H1 m1 r1=>⟨F1,ε,l,rl.mono m1,q1,λF2 H2 m2=>⟨F2,ε,h,rl.mono (m1.trans m2),q2,λF3 H3 m3=> ?_⟩⟩⟩
    obtain⟨c,xs,rfl,hc,rs⟩:=(r1.keep (m2.trans m3)).lst_
    have m13:Mono F H F3 H3:=(m1.trans m2).trans m3
    exact⟨c,xs,rfl,SqL.of hc,λpp hp=>k F3 _ _ (m13.trans (Mono.laid m3.trk hp)) (m13.free hp) (Trk.new m3.trk hp) (.lst ag0 ((rs.cut l h).laid hp m3.trk))⟩
 ·cases hf
def idxT (ts:List T)(s:T):Option Nat:=ts.findIdx? λy=>eqV (toV y) (toV s)
def dc0 (o:T)(xs:List T):Option T:=match o,xs with
 | .lst ts,[s]=>if aZ0 s && ts.all aZ0 && decide (ts.length<=big) then(idxT ts s).map λ(j:Nat)=> .int (j:Int) else none
 |_,_=>none
def dT0 (o:T)(xs:List T):Option T:=match o,xs with
 | .lst ts,[s]=>if aZ0 s && ts.all aZ0 then some (.int ((ts.countP λy=>eqV (toV y) (toV s):Nat):Int)) else none
 |_,_=>none
def do0 (o:T)(xs:List T):Option T:=match o,xs with
 | .tup ts,[s]=>if aZ0 s && ts.all aZ0 then some (.int ((ts.countP λy=>eqV (toV y) (toV s):Nat):Int)) else none
 |_,_=>none
theorem fs0:∀{xs:List V} {us:List Value},Vals xs us->xs.all ch0=true->us.countP (eqU x)=xs.countP λy=>eqV y x
 |_,_,.nil,_=>rfl
 |y::xs,u::us,.cons r t,f=>by
  rw [Aj3,Ac8] at f
  rw [At8,At8,iz0 r f.1,fs0 t f.2]
theorem eO0:∀{xs:List V} {us:List Value},Vals xs us->xs.all ch0=true->us.findIdx? (eqU x)=xs.findIdx? λy=>eqV y x
 |_,_,.nil,_=>rfl
 |y::xs,u::us,.cons r t,f=>by
  rw [Aj3,Ac8] at f
  rw [As3,As3,iz0 r f.1,eO0 t f.2]
theorem ov0:MtR X "list.index" (λx vs H Q=>∃(l:Addr) (xs:List V) (y:V) (j:Nat),x=.ref l/\vs=[y]/\SqL X.K H l xs/\ch0 y=true/\xs.all ch0=true/\xs.length<=big/\(xs.findIdx? λz=>eqV z y)=some j/\Q (.int (j:Int)) H):=by
 intro pins s σ H x vs v us Q I rx rv h
 obtain⟨l,xs,y,j,rfl,rfl,hl,fy,fs,hz,hj,q⟩:=h
 cases rx
 obtain⟨u,rfl,ru⟩:=rv.one
 obtain⟨its,r,pl,_⟩:=I.list hl
 rw [<- eO0 r fs] at hj
 obtain⟨hlt,hit,hno⟩:=List.findIdx?_eq_some_iff_getElem.mp hj
 obtain⟨⟨cls,dd,data,sl⟩,n,ho,hc,hdd,hd⟩:=pl
 cases hc; cases hd; cases hdd
 have hlen:=r.length
 refine Ar1 Au3 ⟨_,ho,rfl⟩ PySem.F.entry_list_index (PySem.F.args_list_index_2 _ _) (SeqAt.list_indexAt l its.toArray n none sl u (eqU y) j (by simpa using hlt) ?_ (by simpa using hit) λm hm hmj=> ?_) ⟨ho,λz hz=>cs0 ru fy r fs z (by simpa using hz),?_⟩
 ·have:j<1000000:=Ad1 hlt (by rw [<- hlen]; exact hz)
  omega
 ·simpa using hno m hmj
 ·exact⟨.int j,H,I.tok _,⟨_,rfl⟩,q⟩
theorem nr0:MtR X "list.count" (λx vs H Q=>∃(l:Addr) (xs:List V) (y:V),x=.ref l/\vs=[y]/\SqL X.K H l xs/\ch0 y=true/\xs.all ch0=true/\Q (.int ((xs.countP λz=>eqV z y:Nat):Int)) H):=by
 intro pins s σ H x vs v us Q I rx rv h
 obtain⟨l,xs,y,rfl,rfl,hl,fy,fs,q⟩:=h
 cases rx
 obtain⟨u,rfl,ru⟩:=rv.one
 obtain⟨its,r,pl,_⟩:=I.list hl
 obtain⟨⟨cls,dd,data,sl⟩,n,ho,hc,hdd,hd⟩:=pl
 cases hc; cases hd; cases hdd
 refine Ar1 Au4 ⟨_,ho,rfl⟩ PySem.F.entry_list_count (PySem.F.args_list_count_2 _ _) (SeqAt.list_countAt l its.toArray n none sl u (eqU y)) ⟨ho,λz hz=>cs0 ru fy r fs z (by simpa using hz),?_⟩
 refine⟨.int _,H,I.tok _,⟨_,rfl⟩,?_⟩
 rw [show its.toArray.toList=its by simp,fs0 r fs]
 exact q
theorem mO0:MtR X "tuple.count" (λx vs H Q=>∃(l:Addr) (xs:List V) (y:V),x=.ref l/\vs=[y]/\SqT X.K H l xs/\ch0 y=true/\xs.all ch0=true/\Q (.int ((xs.countP λz=>eqV z y:Nat):Int)) H):=by
 intro pins s σ H x vs v us Q I rx rv h
 obtain⟨l,xs,y,rfl,rfl,hl,fy,fs,q⟩:=h
 cases rx
 obtain⟨u,rfl,ru⟩:=rv.one
 obtain⟨its,r,pl,_⟩:=I.tuple hl
 obtain⟨⟨cls,dd,data,sl⟩,ho,hc,n,hd⟩:=pl
 cases hc; cases hd
 refine Ar1 At9 ⟨_,ho,rfl⟩ PySem.F.entry_tuple_count (PySem.F.args_tuple_count_2 _ _) (SeqAt.tuple_countAt l its.toArray n dd sl u (eqU y)) ⟨ho,λz hz=>cs0 ru fy r fs z (by simpa using hz),?_⟩
 refine⟨.int _,H,I.tok _,⟨_,rfl⟩,?_⟩
 rw [show its.toArray.toList=its by simp,fs0 r fs]
 exact q
end
end L2.BD
namespace L2
theorem kV_of (h:(aO0 P w).is k u=true):RelV (kV k) u:=by
 rcases aX0 (k:=k) (v:=u) h with⟨i,t,rfl,rfl⟩|⟨x,t,rfl,rfl⟩
 ·exact⟨t,rfl⟩
 ·exact⟨t,rfl⟩
theorem cj0 {H:Hp}(I:Inv X pins σ H s)(h:H a=some (.frz ob (.dK kvs)))(hd:ob.data=.dict es ep):
  s.heap.get? a=some ob/\(a==sysModules)=false/\ob.dict=none/\∃vs,KV kvs vs/\s.heap.DictAt (aO0 X.prog X.w) a vs ep:=by
 obtain⟨h1,_,h2,vs,r,o,es',ep',h3,h4,h5,h6⟩:=(show ObjOk X.prog X.w H s.heap a (.frz ob (.dK kvs)) from I.hok a _ h)
 rw [h1] at h3
 cases h3
 rw [hd] at h5
 cases h5
 exact⟨h1,h2,h4.2.1,vs,r,ob,es,h1,h4,hd,h6⟩
def Itk (a:Addr)(ob:Obj)(kvs:List (Key × V)):It:=
 ⟨λi H=>H a=some (.frz ob (.dK kvs))/\i<kvs.length,λi H x H'=>H'=H/\∃k v,kvs[i]?=some (k,v)/\x=kV k,λi H=>H a=some (.frz ob (.dK kvs))/\kvs.length<=i⟩
def Itp (a:Addr)(ob:Obj)(kvs:List (Key × V)):It:=
 ⟨λi H=>H a=some (.frz ob (.dK kvs))/\i<kvs.length,λi H x H'=>∃p k v,H p=none/\kvs[i]?=some (k,v)/\x=.ref p/\H'=upd H p (.tup [kV k,v]),λi H=>H a=some (.frz ob (.dK kvs))/\kvs.length<=i⟩
theorem KV.at {κ:Type}:∀{kvs:List (κ × V)} {vs:List (κ × Value)} {i:Nat} {k:κ} {v:V},KV kvs vs->kvs[i]?=some (k,v)->∃u,vs[i]?=some (k,u)/\RelV v u
 |_,_,_,_,_,.nil,e=>by simp at e
 |_,_,0,k,v,.cons (b:=b) h _,e=>by
  simp at e
  subst e
  obtain⟨b1,b2⟩:=b
  obtain⟨rfl,h2⟩:=h
  exact⟨b2,rfl,h2⟩
 |_,_,i+1,k,v,.cons _ t,e=>by
  obtain⟨u,h1,h2⟩:=KV.at (i:=i) (k:=k) (v:=v) t (by simpa using e)
  exact⟨u,by simpa using h1,h2⟩
theorem na0 {P:Program}{w:World}{K:Aa3}{tg:Expr}(a it:Addr){ob:Obj}{kvs:List (Key × V)}{es:Array DictEntry}{ep:Nat}(hd:ob.data=.dict es ep):
  Turn P w K tg (Itk a ob kvs) [it] it (λi h=>h.IsKeyIter it a i kvs.length ep) where
 mem:=by simp
 obj:=λi h st b hb=>by
  have e:b=it:=by simpa using hb
  subst e
  obtain⟨o,e,c,d⟩:=st
  exact⟨o,e,λv z=>by rw [d] at z; cases z⟩
 keep:=λi h h' st k=>by
  obtain⟨o,e,c⟩:=st
  exact⟨o,k it (by simp) o e,c⟩
 item:=by
  intro X hP hw hK hc i pins s σ H E I hf st hg
  subst hP hw hK
  obtain⟨hH,hi⟩:=hg
  obtain⟨_,_,_,vs,rv,da⟩:=cj0 I hH hd
  obtain⟨k,v,hkv⟩:∃k v,kvs[i]?=some (k,v):=⟨_,_,by rw [Aa4 hi]⟩
  obtain⟨u,hu,_⟩:=rv.at hkv
  have hlen:kvs.length=vs.length:=rv.length
  rw [hlen] at st
  obtain⟨f0,f1,f2,f3,f4,f5⟩:=hf it (by simp)
  refine wpAny_pyNext_dict_item st da hu λkey h' hk st' sb=> ?_
  have I1:Inv X pins σ H {s with heap:=h'}:=I.turned (t':=s.toks) (λb o hb e=>(sb.2 b hb).trans e) f0 f1 f3 f4 f5
  obtain⟨o,e,c,d⟩:=id st'
  exact⟨key,rfl,mE0 (s:={s with heap:=h'}) e c d (by decide) ⟨kV k,H,I1,kV_of hk,⟨rfl,k,v,hkv,rfl⟩,by rw [hlen]; exact st',λb hb=>(hf b hb).1⟩⟩
 done:=by
  intro X hP hw hK hc i pins s σ H E I hf st hg
  subst hP hw hK
  obtain⟨hH,hi⟩:=hg
  obtain⟨_,_,_,vs,rv,da⟩:=cj0 I hH hd
  have hlen:kvs.length=vs.length:=rv.length
  rw [hlen] at st
  obtain⟨f0,f1,f2,f3,f4,f5⟩:=hf it (by simp)
  exact wpAny_pyNext_dict_end (I.ok.hd hc) st da (Ai9 (by rw [<- hlen]; exact hi)) λh' eb=>⟨rfl,I.turned (t':=s.toks) (λb o hb e=>eb b o hb e) f0 f1 f3 f4 f5⟩
 self:=λA i s Q E st h=>by
  obtain⟨o,ho,hc,hd⟩:=id st
  exact wpAny_pyIter_keyiter st h
theorem Inv.turnedLaid {X:Cx}{pins:List (Addr × Obj)}{σ:St}{H:Hp}{s:Shared}{h':Heap}{t':Nat}{it:List Addr}{a:Addr}{o:HO}(I:Inv X pins σ H s)(k:∀b o,b∉it->s.heap.get? b=some o->h'.get? b=some o)
  (hi:∀b∈it,H b=none/\b≠X.env.locals/\(b∈X.ex\/ X.s₀.heap.objs.size<=b)/\(∀x c,X.env.cells.lookup x=some c->c≠b)/\∀p∈X.pn++pins,p.1≠b)
  (hp:s.heap.objs.size<=a) (new:ObjOk X.prog X.w (upd H a o) h' a o):Inv X pins σ (upd H a o) {s with heap:=h',toks:=t'}:=by
 have hn:H a=none:=I.hok.fresh hp
 have nit:∀b u,H b=some u->b∉it:=λb u e z=>by rw [(hi b z).1] at e; cases e
 refine I.step (g':=s.gens) (d':=s.drawn) (ch:=it) (λb hb=>(hi b hb).2.elim λq1 q=>⟨q.1,q1,q.2.1,q.2.2⟩) (λb o _ _ hc e _=>k b o hc e) (λb o _ _ hc e _=>⟨o.slots,k b o hc e⟩) (λb o hc e n=> ?_)
  (λb o hc e=>⟨o,k b o hc e⟩) (λb xs e=>by rw [aj0 (ah0 e hn)]; exact e) (λb o u e=>by rw [aj0 (ah0 e hn)]; exact e) (λb ps e=>⟨#[],by rw [aj0 (ah0 e hn),e]; simp⟩) (λm hm=> ?_) (λb u e=> ?_) I.bare
 ·rw [aj0 (Ad4 (Ad1 (Ab6 e) hp))]; exact n
 ·obtain⟨o,es,ep,ho,r⟩:=hm
  exact⟨o,es,ep,k _ o (λz=>(hi _ z).2.1 rfl) ho,r⟩
 ·by_cases hb:b=a
  ·subst hb; rw [ag0] at e; cases e; exact new
  ·rw [aj0 hb] at e
   refine(I.hok b u e).stay (λc v hc q=>k c v ?_ q) (λc q=>by rw [aj0 (ah0 q hn)]; exact q) λc xs q=>by rw [aj0 (ah0 q hn)]; exact q
   rcases hc with z|z
   ·rw [z]; exact nit b u e
   ·exact nit c _ z
theorem dr0:entryFor table "dict_itemiterator.__iter__" =some Builtin.«dict_keyiterator.__iter__»:=
 entryFor_alias (id':= "dict_keyiterator.__iter__") (by kernel_rfl) (by first|rfl|decide +kernel) (by decide +kernel) (by kernel_rfl)
theorem kO0 {P:Program}{w:World}{K:Aa3}{elts:List Expr}{x1:Nat}{tp:Pos}(a it:Addr){ob:Obj}{kvs:List (Key × V)}{es:Array DictEntry}{ep:Nat}(hd:ob.data=.dict es ep):
  Turn P w K (.Tuple elts x1 tp) (Itp a ob kvs) [it] it (λi h=>∃ok ov,IsItemIter h it a i kvs.length ep ok ov) where
 mem:=by simp
 obj:=λi h st b hb=>by
  have e:b=it:=by simpa using hb
  subst e
  obtain⟨ok,ov,st⟩:=st
  exact⟨_,st,λv z=>by
   have z':Data.fields _=Data.cell v:=z
   cases z'⟩
 keep:=λi h h' ⟨ok,ov,st⟩ k=>⟨ok,ov,k it (by simp) _ st⟩
 item:=by
  intro X hP hw hK hc i pins s σ H E I hf st hg
  subst hP hw hK
  obtain⟨hH,hi⟩:=hg
  obtain⟨ok,ov,st⟩:=st
  obtain⟨_,_,_,vs,rv,da⟩:=cj0 I hH hd
  obtain⟨k,v,hkv⟩:∃k v,kvs[i]?=some (k,v):=⟨_,_,by rw [Aa4 hi]⟩
  obtain⟨u,hu,ru⟩:=rv.at hkv
  have hlen:kvs.length=vs.length:=rv.length
  rw [hlen] at st
  obtain⟨f0,f1,f2,f3,f4,f5⟩:=hf it (by simp)
  refine wpAny_pyNext_items_item st da hu λkey h' hk st' ht hsz kk=>⟨_,rfl,?_⟩
  refine wpAny_letOwnedTupleGo_items st' λh'' st'' sb=> ?_
  have hit:it<s.heap.objs.size:=Ab6 st
  have hn:H s.heap.objs.size=none:=I.hok.fresh (Ab1 _)
  have ht2:h''.get? s.heap.objs.size=some {cls:=.type "tuple",data:=.seq #[key,u]}:=(sb.2 _ (Al7 hit)).trans ht
  have I2:Inv X pins σ (upd H s.heap.objs.size (.tup [kV k,v])) {s with heap:=h''}:=by
   refine I.turnedLaid (t':=s.toks) (it:=[it]) (λb o hb e=>(sb.2 b (by simpa using hb)).trans (kk b o (by simpa using hb) e)) (λb hb=> ?_) (Ab1 _) ?_
   ·have e:b=it:=by simpa using hb
    rw [e]
    exact⟨f0,f1,f3,f4,f5⟩
   ·exact⟨by simp only [Ac4,Ak1]; rw [Ae1]; decide,[key,u],.cons (kV_of hk) (.cons ru .nil),⟨_,ht2,rfl,0,rfl⟩,_,ht2,rfl⟩
  exact⟨.ref s.heap.objs.size,_,I2,rfl,⟨_,k,v,hn,hkv,rfl,rfl⟩,⟨_,_,by rw [hlen]; exact st''⟩,λb hb=>by
   have e:b=it:=by simpa using hb
   rw [e,aj0 (Ad4 hit)]
   exact f0⟩
 done:=by
  intro X hP hw hK hc i pins s σ H E I hf st hg
  subst hP hw hK
  obtain⟨hH,hi⟩:=hg
  obtain⟨ok,ov,st⟩:=st
  obtain⟨_,_,_,vs,rv,da⟩:=cj0 I hH hd
  have hlen:kvs.length=vs.length:=rv.length
  rw [hlen] at st
  obtain⟨f0,f1,f2,f3,f4,f5⟩:=hf it (by simp)
  exact wpAny_pyNext_items_end (I.ok.hd hc) st da (Ai9 (by rw [<- hlen]; exact hi)) λh' eb=>⟨rfl,I.turned (t':=s.toks) (λb o hb e=>eb b o hb e) f0 f1 f3 f4 f5⟩
 self:=λA i s Q E ⟨ok,ov,st⟩ h=>by
  have hT:s.TypeIs (.ref it) "dict_itemiterator" :=⟨_,st,rfl⟩
  refine wpAny_pyIter_slot hT F.slot_dict_itemiterator_iter (Ah6 F.slot_dict_itemiterator_iter hT dr0 ?_ (F.args_dict_itemiterator_iter_1 _))
  show wpAny _ _ (ret (.ref it)) _ _ s
  exact Aa8 ⟨_,rfl,_,_,hT,F.slot_dict_itemiterator_next.lookup,h⟩
section
variable {X:Cx}{tg:Expr}
def iKeys (tl:TE):TI:=λσ H R=>tl σ H λx H1=>∃a ob kvs,x=.ref a/\H1 a=some (.frz ob (.dK kvs))/\R (Itk a ob kvs) H1
theorem qS0 {l:Expr}{tl:TE}(hl:PE X l tl):PI X tg l (iKeys tl):=by
 intro pins s σ H R I h
 refine thn (hl pins s σ H _ I h) λv s1 ⟨x,H1,I1,r1,a,ob,kvs,e,ha,q⟩=> ?_
 subst e
 cases r1
 have ok:ObjOk X.prog X.w H1 s1.heap a (.frz ob (.dK kvs)):=I1.hok a _ ha
 obtain⟨h1,_,h2,vs,rv,o,es,ep,h3,h4,h5,_⟩:=ok
 rw [h1] at h3
 cases h3
 obtain⟨_,_,_,vs,rv,da⟩:=cj0 I1 ha h5
 refine wpAny_pyIter_dict h2 da ?_
 refine⟨s1.heap.objs.size,[s1.heap.objs.size],_,_,H1,rfl,I1.kept (t':=s1.toks) λb o e=>Aa7 _ e,na0 a _ h5,⟨_,Ab7 _ rfl,rfl,by rw [rv.length]; rfl⟩,λb hb=> ?_,q⟩
 have e:b=s1.heap.objs.size:=by simpa using hb
 subst e
 exact I1.fpOk (Ab1 _) (I1.hok.fresh (Ab1 _))
def rt0 (tl:TE):TI:=λσ H R=>tl σ H λx H1=>∃a ob kvs,x=.ref a/\H1 a=some (.frz ob (.dK kvs))/\R (Itp a ob kvs) H1
theorem ob0 {l:Expr}{tl:TE}{elts:List Expr}{x1:Nat}{tp apos pos:Pos}(hl:PE X l tl)(hbase:attributeBase l "items" X.env (eval l X.env)=eval l X.env:=by rfl) (hline:(apos.endLine==pos.line)=true:=by rfl):
  PI X (.Tuple elts x1 tp) (.Call (.Attribute l "items" apos) [] [] pos) (rt0 tl):=by
 intro pins s σ H R I h
 refine wpAny_Call_method0_late hbase hline (thn (hl pins s σ H _ I h) λv s1 ⟨x,H1,I1,r1,a,ob,kvs,e,ha,q⟩=> ?_)
 subst e
 cases r1
 have ok:ObjOk X.prog X.w H1 s1.heap a (.frz ob (.dK kvs)):=I1.hok a _ ha
 obtain⟨h1,_,h2,vs,rv,o,es,ep,h3,h4,h5,_⟩:=ok
 rw [h1] at h3
 cases h3
 obtain⟨_,_,hdn,vs,rv,da⟩:=cj0 I1 ha h5
 refine⟨"dict", "dict.items",F.plainAttrs_dict,F.slot_dict_items,F.type_dict_items,da.dictOf.typeIs,λb e=> ?_,Am7 rfl (PySem.evalArgs_none ?_)⟩
 ·cases e
  exact⟨ob,h1,hdn⟩
 refine call_meetsIn F.slot_dict_items da.dictOf.typeIs F.entry_dict_items (F.args_dict_items_1 _) (meets_dict_items (aO0 X.prog X.w) a h2) ⟨⟨vs,da.dictOf⟩,?_⟩
 have I2:Inv X pins σ H1 {s1 with heap:=s1.heap.push {cls:=.type "dict_items",data:=.fields #[.ref a]}}:=I1.kept (t':=s1.toks) λb o e=>Aa7 _ e
 refine wpAny_pyIter_items (v:=s1.heap.objs.size) (d:=a) ⟨_,Ab7 _ rfl,rfl,rfl⟩ (da.push _) ?_
 refine⟨_,[_],_,_,H1,rfl,I2.kept (t':=s1.toks) λb o e=>Aa7 _ e,kO0 a _ h5,⟨.none,.none,by rw [rv.length]; exact Ab7 _ rfl⟩,λb hb=> ?_,q⟩
 have e:b=(s1.heap.push {cls:=.type "dict_items",data:=.fields #[.ref a]}).objs.size:=by simpa using hb
 subst e
 exact I2.fpOk (Ab1 _) (I2.hok.fresh (Ab1 _))
end
end L2
namespace L2.BD
theorem Rpk.at {F:Addr->Prop}:∀{kvs:List (Key × V)} {kts:List (Str × T)} {i:Nat} {k:Str} {t:T},Rpk F H kvs kts->kts[i]?=some (k,t)->∃v,kvs[i]?=some (Sum.inr k,v)/\Rp F H v t
 |_,_,_,_,_,.nil,e=>by simp at e
 |_,_,0,k,t,.cons h _,e=>by simp at e; obtain⟨rfl,rfl⟩:=e; exact⟨_,rfl,h⟩
 |_,_,i+1,k,t,.cons _ r,e=>by
  obtain⟨v,h1,h2⟩:=Rpk.at (i:=i) (k:=k) (t:=t) r (by simpa using e)
  exact⟨v,by simpa using h1,h2⟩
section
variable {X:Cx}{Y:Fx}{tg e a b o:Expr}{es:List Expr}{pos p apos cpos:Pos}{f g h:En->Option T}{fa:En->Option (List T)}
def iKey (f:En->Option T):En->Option (List T):=λε=>match f ε with|some (.dct kts)=>some (kts.map λkt=>T.str kt.1)|_=>none
theorem qv0 (hl:SE X Y e f):SI X Y tg e (iKey f):=PI.imp (qS0 hl) λσ H R ⟨F,ε,ts,r,hf,k⟩=>by
 unfold iKey at hf
 split at hf
 ·rename_i kts qf
  cases hf
  refine⟨F,ε,_,r,qf,λF1 v H1 m1 r1=> ?_⟩
  cases r1 with
  | @dct a ob kvs _ fa' ha rs=>
   refine⟨a,ob,kvs,rfl,ha,k F1 H1 _ m1 λi F2 H2 kp tk=>⟨λt e=> ?_,λe=>⟨kp.frz a _ fa' ha,by rw [rs.length,e,Aa1]; exact Ab1 _⟩⟩⟩
   rw [Ab0] at e
   cases q:kts[i]? with
   |none=>rw [q] at e; cases e
   |some kt=>
    rw [q] at e
    cases e
    obtain⟨k0,t0⟩:=kt
    obtain⟨v,hv,_⟩:=rs.at q
    exact⟨⟨kp.frz a _ fa' ha,(Aa9.mp hv).1⟩,λx H' ⟨e1,k1,v1,e2,e3⟩=>by
     subst e1 e3
     rw [hv] at e2
     cases e2
     exact⟨F2,.refl tk,.str _⟩⟩
 ·cases hf
def hM0 (f:En->Option T):En->Option (List T):=λε=>match f ε with|some (.dct kts)=>some (kts.map λkt=>T.tup [.str kt.1,kt.2])|_=>none
theorem jV0 (hl:SE X Y e f)(hbase:attributeBase e "items" X.env (eval e X.env)=eval e X.env:=by rfl) (hline:(apos.endLine==pos.line)=true:=by rfl):
  SI X Y (.Tuple elts x1 tp) (.Call (.Attribute e "items" apos) [] [] pos) (hM0 f):=PI.imp (ob0 hl hbase hline) λσ H R ⟨F,ε,ts,r,hf,k⟩=>by
 unfold hM0 at hf
 split at hf
 ·rename_i kts qf
  cases hf
  refine⟨F,ε,_,r,qf,λF1 v H1 m1 r1=> ?_⟩
  cases r1 with
  | @dct a ob kvs _ fa' ha rs=>
   refine⟨a,ob,kvs,rfl,ha,k F1 H1 _ m1 λi F2 H2 kp tk=>⟨λt e=> ?_,λe=>⟨kp.frz a _ fa' ha,by rw [rs.length,e,Aa1]; exact Ab1 _⟩⟩⟩
   rw [Ab0] at e
   cases q:kts[i]? with
   |none=>rw [q] at e; cases e
   |some kt=>
    rw [q] at e
    cases e
    obtain⟨k0,t0⟩:=kt
    obtain⟨v,hv,rv⟩:=rs.at q
    exact⟨⟨kp.frz a _ fa' ha,(Aa9.mp hv).1⟩,λx H' ⟨pp,k1,v1,hp,e2,e3,e4⟩=>by
     subst e3 e4
     rw [hv] at e2
     cases e2
     exact⟨F2,Mono.laid tk hp,.tup ag0 (.cons (.str _) (.cons (((rv.keep kp)).keep (Mono.laid tk hp).keep) .nil))⟩⟩
 ·cases hf
theorem Rpk.val {F:Addr->Prop}:∀{kvs:List (Key × V)} {kts:List (Str × T)} {t:T},Rpk F H kvs kts->kts.lookup k=some t->∃v,valV kvs (Sum.inr k:Key)=some v/\Rp F H v t
 |_,_,_,.nil,e=>by simp at e
 |_,_,t,.cons (k:=k0) h r,e=>by
  rw [Ac5] at e
  by_cases hk:k0=k
  ·rw [hk,Ah7] at e
   cases e
   exact⟨_,bg0 (by rw [hk]),h⟩
  ·have hb:(k==k0)=false:=by simpa using λz=>hk z.symm
   rw [hb] at e
   obtain⟨v,h1,h2⟩:=Rpk.val r e
   exact⟨v,(bc0 (λz=>hk (Sum.inr.inj z))).trans h1,h2⟩
def ip0:T->T->Option T| .dct kts,.str k=>kts.lookup k|_,_=>none
theorem lJ0 (hu:X.A.units+4<cLine)(ha:BE X Y a f)(hb:BE X Y b g)(hs:NoSl b:=by intro _ _; rfl):SE X Y (.Subscript a b pos) (e2 ip0 f g):=PE.imp (cF0 hu ha hb hs) λσ H Q ⟨F,ε,u,rl,hf,k⟩=>by
 unfold e2 at hf
 cases q1:f ε with
 |none=>rw [q1] at hf; cases hf
 |some s=>
  rw [q1] at hf
  cases q2:g ε with
  |none=>simp only [Aa2,q2] at hf; cases hf
  |some t=>
   simp only [Aa2,q2] at hf
   unfold ip0 at hf
   split at hf
   ·refine⟨F,ε,_,rl,q1,λF1 x H1 m1 r1=>⟨F1,ε,_,rl.mono m1,q2,λF2 y H2 m2 r2=> ?_⟩⟩
    obtain⟨c,xs,rfl,hc,rs⟩:=(r1.keep m2).dct_
    obtain⟨v,h1,h2⟩:=rs.val hf
    cases r2.str_
    exact⟨c,v,rfl,.inl ⟨xs,Sum.inr _,hc,rfl,h1.symm⟩,k F2 v H2 (m1.trans m2) h2⟩
   ·cases hf
def putT (kts:List (Str × T))(k:Str)(t:T):List (Str × T):=if kts.any (λkv=>decide (kv.1=k)) then kts.map (λkv=>if kv.1=k then(kv.1,t) else kv) else kts++ [(k,t)]
theorem Rpk.any {F:Addr->Prop}:∀{kvs:List (Key × V)} {kts:List (Str × T)},Rpk F H kvs kts->(kvs.any λkv=>decide (kv.1=(Sum.inr k:Key)))=kts.any λkv=>decide (kv.1=k)
 |_,_,.nil=>rfl
 |_,_,.cons (k:=k0) h r=>by rw [Ai0,Ai0,Rpk.any r,oR0]
theorem Rpk.repl {F:Addr->Prop}(hv:Rp F H v t):∀{kvs:List (Key × V)} {kts:List (Str × T)},Rpk F H kvs kts->
  Rpk F H (kvs.map λkv=>if kv.1=(Sum.inr k:Key) then(kv.1,v) else kv) (kts.map λkv=>if kv.1=k then(kv.1,t) else kv)
 |_,_,.nil=> .nil
 |_,_,.cons (k:=k0) h r=>by
  rw [Ac2,Ac2]
  by_cases e:k0=k
  ·rw [if_pos (by rw [e]),if_pos e]; exact .cons hv (Rpk.repl hv r)
  ·rw [if_neg (λz=>e (Sum.inr.inj z)),if_neg e]; exact .cons h (Rpk.repl hv r)
theorem Rpk.snoc {F:Addr->Prop}(hv:Rp F H v t):∀{kvs:List (Key × V)} {kts:List (Str × T)},Rpk F H kvs kts->Rpk F H (kvs++ [(Sum.inr k,v)]) (kts++ [(k,t)])
 |_,_,.nil=> .cons hv .nil
 |_,_,.cons h r=> .cons h (Rpk.snoc hv r)
theorem Rpk.put {F:Addr->Prop}(r:Rpk F H kvs kts)(hv:Rp F H v t):Rpk F H (putK kvs (Sum.inr k) v) (putT kts k t):=by
 unfold putK putT
 rw [r.any]
 split
 ·exact r.repl hv
 ·exact r.snoc hv
def sDPut (i:Nat)(fk fv:En->Option T):En->Option Fl:=λε=>match ε[i]? with
 |some (.ow (.dct kts))=>(fv ε).bind λv=>match fk ε with
  |some (.str k)=>if kts.length<big then some (.nx (ε.set i (.ow (.dct (putT kts k v))))) else none
  |_=>none
 |_=>none
theorem qR0 (hu:X.A.units+4<cLine)(hx:PE X (.Name x px) (tVar i))(hk:BE X Y b g)(hv:SE X Y e f)
  (hs:swapsWith e (some (.Subscript (.Name x px) b pos')) pos.line X.env=pure false:=by rfl):SS X Y (.Assign [.Subscript (.Name x px) b pos'] e pos) (sDPut i g f):=
 PS.imp (cP0 hu hx hk hv hs) λD σ H ⟨F,ε,fl,r,hg,k⟩=>by
  unfold sDPut at hg
  split at hg
  ·rename_i kts e1
   obtain⟨c,s1,nf,h0,hr⟩:=r.ow i _ e1
   cases q:f ε with
   |none=>rw [q] at hg; cases hg
   |some t=>
    rw [q] at hg
    simp only [Aa2] at hg
    split at hg
    ·split at hg
     ·rename_i ks qk hb
      cases hg
      obtain⟨xs,ha,rs⟩:=hr.dct_
      refine⟨F,ε,t,r,q,λF1 v H1 m1 r1=>⟨_,s1,F1,ε,_,r.mono m1,qk,λF2 y H2 m2 r2=> ?_⟩⟩
      have m12:=m1.trans m2
      have ha2:=m12.ext _ _ ha
      cases r2.str_
      refine⟨c,_,rfl,DPut.k (k:=Sum.inr ks) ha2 (ne0 (by rw [rs.length]; exact hb)),?_⟩
      have hne:∀ys,H2 c≠some (.tup ys):=λys z=>by rw [ha2] at z; cases z
      have kp:Keep F2 H2 F2 (upd H2 c (.dK (putK xs (Sum.inr ks) v))):=by
       have nf1:¬F2 c:=λz=>(m12.new c z).elim nf λw=>by rw [ha] at w; cases w
       exact⟨λ_ h=>h,λb u f q=>by rw [aj0 (λ(z:b=c)=>nf1 (z▸f))]; exact q,λb ys q=>by rw [aj0 (λ(z:b=c)=>hne ys (z▸q))]; exact q⟩
      obtain⟨r3,k3⟩:=(r.mono m12).write (o:=.dK (putK xs (Sum.inr ks) v)) (t':=.dct (putT kts ks t)) e1 s1 hne (.dct ag0 (((rs.keep m12.keep).put (r1.keep m2.keep)).keep kp))
      exact k F2 σ _ (m12.keep.trans k3) r3
     ·cases hg
    ·cases hg
  ·cases hg
def lh0:List T->Option T| [.dct kts]=>some (.dct kts)|_=>none
theorem kS0:ds0 X (.type "dict") (λxs H Q=>∃(a:Addr) (kvs:List (Key × V)),xs=[.ref a]/\Rd H a (.dK kvs)/\∀p,H p=none->Q (.ref p) (upd H p (.dK kvs))):=by
 intro pins s σ H xs us Q I r h
 obtain⟨a,kvs,rfl,ha,q⟩:=h
 obtain⟨u,rfl,ru⟩:=gp0 r
 cases ru
 exact ox0 I ha λp s' hp I'=>⟨.ref p,_,I',rfl,q p hp⟩
theorem sj0:OpNF (λxs H Q=>∃(a:Addr) (kvs:List (Key × V)),xs=[.ref a]/\Rd H a (.dK kvs)/\∀p,H p=none->Q (.ref p) (upd H p (.dK kvs))) lh0:=by
 intro F H xs ts u Q tk r h k
 unfold lh0 at h
 split at h
 ·obtain⟨x,rfl,rx⟩:=Rbs.one r
  obtain⟨a,ys,rfl,ha,ry⟩:=rx.dct_
  cases h
  exact⟨_,_,rfl,ha,λl hl=>k F _ _ (Mono.laid tk hl) hl (Trk.new tk hl) (.dct ag0 (ry.keep (Mono.laid tk hl).keep))⟩
 ·cases h
theorem pj0 (hg:Gl X "dict") (hm:X.mg "dict" =none) (ha:BA X Y [a] fa) (hv:bootBuiltins "dict" =some (.type "dict"):=by rfl) (he:starEach [a] X.env=[(false,eval a X.env)]:=by rfl):FE X Y (.Call (.Name "dict" p) [a] [] pos) (ay0 lh0 fa):=gP0 kS0 sj0 hg hm hv ha (by decide) (by decide) he rfl
def eBM (φ:T->List T->Option T)(fo:En->Option T)(fa:En->Option (List T)):En->Option T:=λε=>(fo ε).bind λo=>(fa ε).bind λts=>φ o ts
def OpM (r:V->List V->Hp->VK->Prop)(φ:T->List T->Option T):Prop:=∀F H x xs s ts u Q,Trk F H->Rb F H x s->Rbs F H xs ts->φ s ts=some u->(∀F' v H',Mono F H F' H'->Rp F' H' v u->Q v H')->r x xs H Q
theorem pI0 {K:Aa3}:OpM (λx vs H Q=>∃(l:Addr) (xs:List V) (y:V) (j:Nat),x=.ref l/\vs=[y]/\SqL K H l xs/\ch0 y=true/\xs.all ch0=true/\xs.length<=big/\(xs.findIdx? λz=>eqV z y)=some j/\Q (.int (j:Int)) H) dc0:=by
 intro F H x xs s ts u Q tk rx rs h k
 unfold dc0 at h
 split at h
 ·split at h
  ·rename_i us s' hf
   rw [Ac8,Ac8,decide_eq_true_eq] at hf
   obtain⟨y,rfl,ry⟩:=Rbs.one rs
   obtain⟨a,ys,rfl,ha,r⟩:=rx.lst_
   obtain⟨e1,f1⟩:=ry.flat hf.1.1
   obtain⟨e2,f2⟩:=r.flat hf.1.2
   cases q:idxT us s' with
   |none=>rw [q] at h; cases h
   |some j=>
    rw [q] at h; cases h
    refine⟨a,ys,y,j,rfl,rfl,SqL.of ha,f1,f2,by rw [r.length]; exact hf.2,?_,k F _ H (.refl tk) (.int _)⟩
    rw [e1,e2,List.findIdx?_map]
    exact q
  ·cases h
 ·cases h
theorem qH0 {K:Aa3}:OpM (λx vs H Q=>∃(l:Addr) (xs:List V) (y:V),x=.ref l/\vs=[y]/\SqL K H l xs/\ch0 y=true/\xs.all ch0=true/\Q (.int ((xs.countP λz=>eqV z y:Nat):Int)) H) dT0:=by
 intro F H x xs s ts u Q tk rx rs h k
 unfold dT0 at h
 split at h
 ·split at h
  ·rename_i us s' hf
   rw [Ac8] at hf
   cases h
   obtain⟨y,rfl,ry⟩:=Rbs.one rs
   obtain⟨a,ys,rfl,ha,r⟩:=rx.lst_
   obtain⟨e1,f1⟩:=ry.flat hf.1
   obtain⟨e2,f2⟩:=r.flat hf.2
   refine⟨a,ys,y,rfl,rfl,SqL.of ha,f1,f2,?_⟩
   rw [e1,e2,Au7]
   exact k F _ H (.refl tk) (.int _)
  ·cases h
 ·cases h
theorem nK0 {K:Aa3}:OpM (λx vs H Q=>∃(l:Addr) (xs:List V) (y:V),x=.ref l/\vs=[y]/\SqT K H l xs/\ch0 y=true/\xs.all ch0=true/\Q (.int ((xs.countP λz=>eqV z y:Nat):Int)) H) do0:=by
 intro F H x xs s ts u Q tk rx rs h k
 unfold do0 at h
 split at h
 ·split at h
  ·rename_i us s' hf
   rw [Ac8] at hf
   cases h
   obtain⟨y,rfl,ry⟩:=Rbs.one rs
   obtain⟨a,ys,rfl,ha,r⟩:=rx.tup_
   obtain⟨e1,f1⟩:=ry.flat hf.1
   obtain⟨e2,f2⟩:=r.flat hf.2
   refine⟨a,ys,y,rfl,rfl,SqT.of ha,f1,f2,?_⟩
   rw [e1,e2,Au7]
   exact k F _ H (.refl tk) (.int _)
  ·cases h
 ·cases h
theorem jI0 {φ:T->List T->Option T}(q:eBM φ f fa ε=some u):∃s ts,f ε=some s/\fa ε=some ts/\φ s ts=some u:=by
 unfold eBM at q
 cases q1:f ε with
 |none=>rw [q1] at q; cases q
 |some s=>
  rw [q1] at q
  cases q2:fa ε with
  |none=>simp only [Aa2,q2] at q; cases q
  |some ts=>simp only [Aa2,q2] at q; exact⟨s,ts,rfl,rfl,q⟩
theorem oU0 {name:Str}{id:String}{r:V->List V->Hp->VK->Prop}{φ:T->List T->Option T}(slot:Slot "list" name id) (hty:typeOf (.builtin id)=pure (.type "method_descriptor")) (hm:MtR X id r) (om:OpM r φ) (hl:∀s ts u,φ s ts=some u->∃us,s=.lst us) (ho:BE X Y o f) (ha:BA X Y [e] fa)
  (hbase:attributeBase o name X.env (eval o X.env)=eval o X.env:=by rfl)
  (hfew:((backTo cpos (starEach [e] X.env)).all (λx=> !x.1) && (backToKw cpos (keywordEach [] X.env)).all (λx=>x.1.isSome)
   && decide (([e]:List Expr).length+([]:List Keyword).length+(if([]:List Keyword).isEmpty then 0 else 1)<30))=true:=by rfl)
  (hline:(apos.endLine==cpos.line)=true:=by rfl) (hs:starEach [e] X.env=[(false,eval e X.env)]:=by rfl):SE X Y (.Call (.Attribute o name apos) [e] [] cpos) (eBM φ f fa):=
 PE.imp (fw0 Ae0 slot hty hm ho ha hbase hfew hline hs rfl) λσ H Q ⟨F,ε,u,rl,hf,k⟩=>by
  obtain⟨s,ts,q1,q2,q3⟩:=jI0 hf
  obtain⟨us,rfl⟩:=hl _ _ _ q3
  refine⟨F,ε,_,rl,q1,λF1 x H1 m1 r1=> ?_⟩
  obtain⟨a,xs,e1,ha1,_⟩:=r1.lst_
  refine⟨by rw [e1]; exact .inl ⟨rfl,xs,SqL.of ha1⟩,F1,ε,ts,rl.mono m1,q2,λF2 ys H2 m2 r2=>om F2 H2 x ys _ ts u Q m2.trk (r1.keep m2) r2 q3 λF3 v H3 m3 r3=>k F3 v H3 ((m1.trans m2).trans m3) r3⟩
theorem jL0 (ho:BE X Y o f)(ha:BA X Y [e] fa)(hbase:attributeBase o "index" X.env (eval o X.env)=eval o X.env:=by rfl)
  (hfew:((backTo cpos (starEach [e] X.env)).all (λx=> !x.1) && (backToKw cpos (keywordEach [] X.env)).all (λx=>x.1.isSome)
   && decide (([e]:List Expr).length+([]:List Keyword).length+(if([]:List Keyword).isEmpty then 0 else 1)<30))=true:=by rfl)
  (hline:(apos.endLine==cpos.line)=true:=by rfl) (hs:starEach [e] X.env=[(false,eval e X.env)]:=by rfl):SE X Y (.Call (.Attribute o "index" apos) [e] [] cpos) (eBM dc0 f fa):=
 oU0 Au3 PySem.F.type_list_index ov0 pI0 (λs ts u q=>by unfold dc0 at q; split at q; exact⟨_,rfl⟩; cases q) ho ha hbase hfew hline hs
theorem iG0 (ho:BE X Y o f)(ha:BA X Y [e] fa)(hbase:attributeBase o "count" X.env (eval o X.env)=eval o X.env:=by rfl)
  (hfew:((backTo cpos (starEach [e] X.env)).all (λx=> !x.1) && (backToKw cpos (keywordEach [] X.env)).all (λx=>x.1.isSome)
   && decide (([e]:List Expr).length+([]:List Keyword).length+(if([]:List Keyword).isEmpty then 0 else 1)<30))=true:=by rfl)
  (hline:(apos.endLine==cpos.line)=true:=by rfl) (hs:starEach [e] X.env=[(false,eval e X.env)]:=by rfl):SE X Y (.Call (.Attribute o "count" apos) [e] [] cpos) (eBM dT0 f fa):=
 oU0 Au4 PySem.F.type_list_count nr0 qH0 (λs ts u q=>by unfold dT0 at q; split at q; exact⟨_,rfl⟩; cases q) ho ha hbase hfew hline hs
theorem mW0 (ho:BE X Y o f)(ha:BA X Y [e] fa)(hbase:attributeBase o "count" X.env (eval o X.env)=eval o X.env:=by rfl)
  (hfew:((backTo cpos (starEach [e] X.env)).all (λx=> !x.1) && (backToKw cpos (keywordEach [] X.env)).all (λx=>x.1.isSome)
   && decide (([e]:List Expr).length+([]:List Keyword).length+(if([]:List Keyword).isEmpty then 0 else 1)<30))=true:=by rfl)
  (hline:(apos.endLine==cpos.line)=true:=by rfl) (hs:starEach [e] X.env=[(false,eval e X.env)]:=by rfl):SE X Y (.Call (.Attribute o "count" apos) [e] [] cpos) (eBM do0 f fa):=by
 intro pins s σ H Q I hw
 obtain⟨F,ε,u,rl,hf,k⟩:=hw
 obtain⟨t,ts,q1,q2,q3⟩:=jI0 hf
 obtain⟨us,rfl⟩:∃us,t=.tup us:=by unfold do0 at q3; split at q3; exact⟨_,rfl⟩; cases q3
 refine wpAny_Call_method_late hbase hfew hline rfl (thn (ho pins s σ H (λx H1=>∃F1,Mono F H F1 H1/\Rb F1 H1 x (.tup us)) I ⟨F,ε,_,rl,q1,λF1 v H1 m1 r1=>⟨F1,m1,r1⟩⟩) λv s1 ⟨x,H1,I1,r1,F1,m1,rb⟩=> ?_)
 obtain⟨a,xs,rfl,ha1,_⟩:=rb.tup_
 cases r1
 obtain⟨_,its,_,p,ob,hob,hod⟩:=(show ObjOk X.prog X.w H1 s1.heap a (.tup xs) from I1.hok a _ ha1)
 refine⟨"tuple", "tuple.count",PySem.F.plainAttrs_tuple,At9,PySem.F.type_tuple_count,p.typeIs,λb e=> ?_,?_⟩
 ·cases e
  exact⟨ob,hob,hod⟩
 have hA:=ha cpos pins s1 σ H1 (λys H2=>∃F2,Mono F1 H1 F2 H2/\Rbs F2 H2 ys ts) I1 ⟨F1,ε,ts,rl.mono m1,q2,λF2 ys H2 m2 r2=>⟨F2,m2,r2⟩⟩
 rw [hs] at hA ⊢
 refine Am7 rfl (Calls.evalArgs_plain ?_)
 exact thn hA λus' s2 ⟨vs,H2,I2,r2,F2,m2,rb2⟩=>mO0 pins s2 σ H2 (.ref a) vs (.ref a) us' Q I2 rfl r2 (nK0 F2 H2 _ vs _ ts u Q m2.trk (rb.keep m2) rb2 q3 λF3 v H3 m3 r3=>k F3 v H3 ((m1.trans m2).trans m3) r3)
end
end L2.BD
namespace L2
section
variable {prog:Program}{w:World}{A:Around}{E:Value->Shared->Prop}{s:Shared}
theorem dZ0 {Q:Value->Shared->Prop}(hu:s.heap.IsTupleIter u t i)(ht:s.heap.IsTuple t its)(hx:its[i]?=some x)
  (k:∀h',h'.IsTupleIter u t (i+1)->Heap.SameBut u s.heap h'->Q x {s with heap:=h'}):wpAny (model prog w) A (Builtin.SmallTypes.nextOf (.ref u)) Q E s:=by
 obtain⟨ou,gu,cu,du⟩:=id hu
 obtain⟨ot,gt,_,nt,dt⟩:=ht
 unfold Builtin.SmallTypes.nextOf
 refine Aa0 (Ag1 (name:=Str.ofString "__next__") hu.typeIs F.slot_tuple_iterator_next (Ah6 F.slot_tuple_iterator_next hu.typeIs F.entry_tuple_iterator_next ?_ (F.args_tuple_iterator_next_1 _)))
 show wpAny _ _ (field (.ref u) 0>>=_) _ _ s; refine Aa0 (Ai5 gu du (x:=.ref t) rfl ?_)
 show wpAny _ _ (if(Value.ref t==Value.none)=true then _ else _) _ _ s; rw [if_neg (by exact Ab4)]
 show wpAny _ _ (field (.ref u) 1>>=_) _ _ s; refine Aa0 (Ai5 gu du (x:=.int i 0) rfl ?_)
 show wpAny _ _ (seqItems? (.ref t)>>=_) _ _ s; refine Aa0 (Ai4 gt dt ?_); simp only [Ac9,hx]
 refine Aa0 (Ar9 gu du (by simp) (Aa8 ⟨x,rfl,Aa8 (k _ ⟨_,An0 _ gu (Obj.isFreed_of_fields (Obj.data_mapFields du _)),(Obj.cls_mapFields ..).trans cu,?_⟩ (Heap.SameBut.update ..))⟩))
 rw [Obj.data_mapFields du]; simp [rawInt]
theorem hJ0 {Q:Value->Shared->Prop}(hh:A.handled=none)(hu:s.heap.IsTupleIter u t i)(ht:s.heap.IsTuple t its)(hx:its[i]?=none)
  (k:∀h' e,Heap.ExtBut u s.heap h'->(∃o,h'.get? e=some o/\o.cls=.type "StopIteration")->E (.ref e) {s with heap:=h'}):wpAny (model prog w) A (Builtin.SmallTypes.nextOf (.ref u)) Q E s:=by
 obtain⟨ou,gu,cu,du⟩:=id hu
 obtain⟨ot,gt,_,nt,dt⟩:=ht
 unfold Builtin.SmallTypes.nextOf
 refine Aa0 (Ag1 (name:=Str.ofString "__next__") hu.typeIs F.slot_tuple_iterator_next (Ah6 F.slot_tuple_iterator_next hu.typeIs F.entry_tuple_iterator_next ?_ (F.args_tuple_iterator_next_1 _)))
 show wpAny _ _ (field (.ref u) 0>>=_) _ _ s; refine Aa0 (Ai5 gu du (x:=.ref t) rfl ?_)
 show wpAny _ _ (if(Value.ref t==Value.none)=true then _ else _) _ _ s; rw [if_neg (by exact Ab4)]
 show wpAny _ _ (field (.ref u) 1>>=_) _ _ s; refine Aa0 (Ai5 gu du (x:=.int i 0) rfl ?_)
 show wpAny _ _ (seqItems? (.ref t)>>=_) _ _ s; refine Aa0 (Ai4 gt dt ?_); simp only [Ac9,hx]
 refine Aa0 (An7 (Aa0 (Ar9 gu du (by simp) ?_))); show wpAny _ _ (newExc (.type "StopIteration") []>>=_) _ _ _
 refine Aa0 ?_; simp only [newExc,newTuple]; refine Aa0 (Ah1 ?_ (by size_fits))
 refine Aa0 (m:=firstArgMember _ _) (wpAny_of_eq (a:=Value.none) (by first|rfl|(simp only [firstArgMember]; rfl)) (Ah1 ?_ (by size_fits)))
 simp only [raiseNew]; refine Aa0 (wpAny_handled ?_); (first|rw [show A.in1.handled=none from hh]|rw [hh])
 exact Aa0 (Aa8 (wpAny_throw (k _ _ (((Heap.SameBut.update ..).extBut.push _).push _) ⟨_,Ab7 _ rfl,rfl⟩)))
theorem lD0 {Q:Value->Shared->Prop}(D:ZipApart z ti to' u1 u2 l1 l2)
  (gz:IsZip s.heap z ti to' .none) (gi:IsPair s.heap ti (.ref u1) (.ref u2)) (go:IsPair s.heap to' a b) (g1:s.heap.IsTupleIter u1 l1 k1) (g2:s.heap.IsTupleIter u2 l2 k2) (gl1:s.heap.IsTuple l1 xs) (gl2:s.heap.IsTuple l2 ys) (hx:xs[k1]?=some x) (hy:ys[k2]?=some y)
  (k:∀h',IsZip h' z ti to' (rawInt s.heap.objs.size)->IsPair h' to' x y->h'.IsTupleIter u1 l1 (k1+1)->h'.IsTupleIter u2 l2 (k2+1)->IsPair h' s.heap.objs.size x y->h'.objs.size=s.heap.objs.size+1->
   (∀c o,c≠z->c≠to'->c≠u1->c≠u2->s.heap.get? c=some o->h'.get? c=some o)->Q (.ref s.heap.objs.size) {s with heap:=h'}):
  wpAny (model prog w) A (Builtin.«zip.__next__» ⟨[.ref z],[]⟩) (λfin s'=>∃v,fin=.done (.ret v)/\Q v s') E s:=by
 show wpAny _ _ (field (.ref z) 2>>=_) _ _ s; refine Aa0 (Ai5 gz rfl (x:=.bool false) rfl ?_)
 show wpAny _ _ (field (.ref z) 3>>=_) _ _ s; refine Aa0 (Ai5 gz rfl (x:=.ref ti) rfl (Aa0 (Ai4 gi rfl ?_)))
 show wpAny _ _ (Builtin.SmallTypes.ownedTupleIsFree (.ref z)>>=_) _ _ s; refine Aa0 ?_; unfold Builtin.SmallTypes.ownedTupleIsFree
 refine Aa0 (Ai5 gz rfl (x:=.none) rfl (Aa8 ?_)); simp only [Al1]; refine Aa0 (An7 (Aa0 (Ai5 gz rfl (x:=.ref to') rfl ?_)))
 refine Aa0 (Ak9 gz (by simp) λha gza sa=> ?_); replace gza:IsZip ha z ti to' .ellipsis:=gza
 refine Aa0 ?_; simp only [Au0,List.zipIdx_nil,Au6,List.forIn_nil]; refine Aa0 (Aa0 (As6 ?_))
 show wpAny _ _ (Builtin.SmallTypes.nextOf (.ref u1)>>=_) _ _ _; refine Aa0 (dZ0 (g1.extBut sa.extBut D.i1z) (gl1.extBut sa.extBut D.l1z) hx λhb g1b sb=>Aa8 ?_)
 have gob:IsPair hb to' a b:=sb.extBut _ _ D.TOi1 (sa.extBut _ _ D.TOz go)
 refine Aa0 (Ai4 gob rfl (Aa0 (Ar2 gob λhc goc sc=> ?_))); replace goc:IsPair hc to' x b:=goc
 refine Aa0 (Am8 (Aa8 (Aa0 (Aa0 (As6 ?_)))))
 show wpAny _ _ (Builtin.SmallTypes.nextOf (.ref u2)>>=_) _ _ _
 refine Aa0 (dZ0 (((g2.extBut sa.extBut D.i2z).extBut sb.extBut D.i12.symm).extBut sc.extBut D.TOi2.symm) (((gl2.extBut sa.extBut D.l2z).extBut sb.extBut D.l2i1).extBut sc.extBut D.l2TO) hy λhd g2d sd=>Aa8 ?_)
 have god:IsPair hd to' x b:=sd.extBut _ _ D.TOi2 goc
 refine Aa0 (Ai4 god rfl (Aa0 (Ar2 god λhe goe se=> ?_))); replace goe:IsPair he to' x y:=goe
 refine Aa0 (Am8 (Aa8 (Aa8 (Aa0 (Ai4 goe rfl (Aa0 (wpAny_newTuple ?_)))))))
 have sz:he.objs.size=s.heap.objs.size:=by rw [se.1,sd.1,sc.1,sb.1,sa.1]
 have gze:IsZip he z ti to' .ellipsis:=se.extBut _ _ D.TOz.symm (sd.extBut _ _ D.i2z.symm (sc.extBut _ _ D.TOz.symm (sb.extBut _ _ D.i1z.symm gza)))
 have ke:∀c o,c≠z->c≠to'->c≠u1->c≠u2->s.heap.get? c=some o->he.get? c=some o:=λc o n1 n2 n3 n4 g=>se.extBut _ _ n2 (sd.extBut _ _ n4 (sc.extBut _ _ n2 (sb.extBut _ _ n3 (sa.extBut _ _ n1 g))))
 have g1e:he.IsTupleIter u1 l1 (k1+1):=((g1b.extBut sc.extBut D.TOi1.symm).extBut sd.extBut D.i12).extBut se.extBut D.TOi1.symm
 have g2e:he.IsTupleIter u2 l2 (k2+1):=g2d.extBut se.extBut D.TOi2.symm
 have zlt:z<he.objs.size:=Ab6 gze
 show wpAny _ _ (Builtin.SmallTypes.ownedTupleHandOut (.ref z) (.ref he.objs.size)>>=_) _ _ _; refine Aa0 ?_; unfold Builtin.SmallTypes.ownedTupleHandOut
 have gzf:IsZip (he.push {cls:=.type "tuple",data:=.seq #[x,y]}) z ti to' .ellipsis:=Aa7 _ gze
 refine Aa0 (Ak9 gzf (by simp) λhg gzg sg=> ?_); replace gzg:IsZip hg z ti to' (rawInt he.objs.size):=gzg
 refine Ak9 gzg (by simp) λhi gzi si=> ?_; replace gzi:IsZip hi z ti to' (rawInt he.objs.size):=gzi
 have up:∀c o,c≠z->he.get? c=some o->hi.get? c=some o:=λc o n g=>si.extBut _ _ n (sg.extBut _ _ n (Aa7 _ g))
 have gti:IsPair hi he.objs.size x y:=si.extBut _ _ (Al7 zlt) (sg.extBut _ _ (Al7 zlt) (Ab7 _ rfl))
 have szi:hi.objs.size=he.objs.size+1:=by rw [si.1,sg.1,Af6]
 rw [sz] at gzi gti szi
 refine Aa8 ⟨_,rfl,?_⟩; show Q (.ref he.objs.size) _; rw [sz]
 have at1:∀{h h':Heap} {u l:Addr} {i:Nat},h.IsTupleIter u l i->(∀o,h.get? u=some o->h'.get? u=some o)->h'.IsTupleIter u l i:=λ⟨o,e,r⟩ f=>⟨o,f o e,r⟩
 exact k hi gzi (up _ _ D.TOz goe) (at1 g1e λo g=>up _ o D.i1z g) (at1 g2e λo g=>up _ o D.i2z g) gti szi λc o n1 n2 n3 n4 g=>up c o n1 (ke c o n1 n2 n3 n4 g)
theorem oo0 {Q:Fin->Shared->Prop}(hh:A.handled=none)(D:ZipApart z ti to' u1 u2 l1 l2)
  (gz:IsZip s.heap z ti to' .none) (gi:IsPair s.heap ti (.ref u1) (.ref u2)) (go:IsPair s.heap to' a b) (g1:s.heap.IsTupleIter u1 l1 k1) (g2:s.heap.IsTupleIter u2 l2 k2) (gl1:s.heap.IsTuple l1 xs) (gl2:s.heap.IsTuple l2 ys) (hend:xs[k1]?=none\/ ys[k2]?=none)
  (k:∀h' e,(∀c o,c≠z->c≠to'->c≠u1->c≠u2->s.heap.get? c=some o->h'.get? c=some o)->(∃o,h'.get? e=some o/\o.cls=.type "StopIteration")->E (.ref e) {s with heap:=h'}):
  wpAny (model prog w) A (Builtin.«zip.__next__» ⟨[.ref z],[]⟩) Q E s:=by
 show wpAny _ _ (field (.ref z) 2>>=_) _ _ s; refine Aa0 (Ai5 gz rfl (x:=.bool false) rfl ?_)
 show wpAny _ _ (field (.ref z) 3>>=_) _ _ s; refine Aa0 (Ai5 gz rfl (x:=.ref ti) rfl (Aa0 (Ai4 gi rfl ?_)))
 show wpAny _ _ (Builtin.SmallTypes.ownedTupleIsFree (.ref z)>>=_) _ _ s; refine Aa0 ?_; unfold Builtin.SmallTypes.ownedTupleIsFree
 refine Aa0 (Ai5 gz rfl (x:=.none) rfl (Aa8 ?_)); simp only [Al1]; refine Aa0 (An7 (Aa0 (Ai5 gz rfl (x:=.ref to') rfl ?_)))
 refine Aa0 (Ak9 gz (by simp) λha gza sa=> ?_); replace gza:IsZip ha z ti to' .ellipsis:=gza
 refine Aa0 ?_; simp only [Au0,List.zipIdx_nil,Au6,List.forIn_nil]; refine Aa0 (Aa0 (As6 ?_))
 show wpAny _ _ (Builtin.SmallTypes.nextOf (.ref u1)>>=_) _ _ _
 cases hx:xs[k1]? with
 |none=>
  refine Aa0 (hJ0 hh (g1.extBut sa.extBut D.i1z) (gl1.extBut sa.extBut D.l1z) hx λhb e sb ge=> ?_)
  obtain⟨oe,goe,ce⟩:=ge
  have gzb:IsZip hb z ti to' .ellipsis:=sb _ _ D.i1z.symm gza
  have nez:e≠z:=λq=>by subst q; rw [gzb] at goe; cases goe; simp at ce
  exact Ak9 gzb (by simp) λhc _ sc=>k hc e (λc o n1 _ n3 _ g=>sc.extBut _ _ n1 (sb _ _ n3 (sa.extBut _ _ n1 g))) ⟨oe,sc.extBut _ _ nez goe,ce⟩
 |some x=>
  have hy:ys[k2]?=none:=by
   rcases hend with q|q
   ·rw [hx] at q; cases q
   ·exact q
  refine Aa0 (dZ0 (g1.extBut sa.extBut D.i1z) (gl1.extBut sa.extBut D.l1z) hx λhb g1b sb=>Aa8 ?_)
  have gob:IsPair hb to' a b:=sb.extBut _ _ D.TOi1 (sa.extBut _ _ D.TOz go)
  refine Aa0 (Ai4 gob rfl (Aa0 (Ar2 gob λhc goc sc=>Aa0 (Am8 (Aa8 (Aa0 (Aa0 (As6 ?_))))))))
  show wpAny _ _ (Builtin.SmallTypes.nextOf (.ref u2)>>=_) _ _ _
  refine Aa0 (hJ0 hh (((g2.extBut sa.extBut D.i2z).extBut sb.extBut D.i12.symm).extBut sc.extBut D.TOi2.symm) (((gl2.extBut sa.extBut D.l2z).extBut sb.extBut D.l2i1).extBut sc.extBut D.l2TO) hy λhd e sd ge=> ?_)
  obtain⟨oe,goe,ce⟩:=ge
  have gzd:IsZip hd z ti to' .ellipsis:=sd _ _ D.i2z.symm (sc.extBut _ _ D.TOz.symm (sb.extBut _ _ D.i1z.symm gza))
  have nez:e≠z:=λq=>by subst q; rw [gzd] at goe; cases goe; simp at ce
  exact Ak9 gzd (by simp) λhf _ sf=>k hf e (λc o n1 n2 n3 n4 g=>sf.extBut _ _ n1 (sd _ _ n4 (sc.extBut _ _ n2 (sb.extBut _ _ n3 (sa.extBut _ _ n1 g))))) ⟨oe,sf.extBut _ _ nez goe,ce⟩
abbrev tzH1 (h:Heap)(l1:Addr):Heap:=h.push {cls:=.type "tuple_iterator",data:=.fields #[.ref l1,.int 0 0]}
abbrev tzH2 (h:Heap)(l1 l2:Addr):Heap:=(tzH1 h l1).push {cls:=.type "tuple_iterator",data:=.fields #[.ref l2,.int 0 0]}
abbrev tzH3 (h:Heap)(l1 l2:Addr):Heap:=(tzH2 h l1 l2).push {cls:=.type "tuple",data:=.seq #[.ref h.objs.size,.ref (tzH1 h l1).objs.size]}
abbrev tzH4 (h:Heap)(l1 l2:Addr):Heap:=(tzH3 h l1 l2).push {cls:=.type "tuple",data:=.seq #[.none,.none]}
abbrev tzH5 (h:Heap)(l1 l2:Addr):Heap:=(tzH4 h l1 l2).push {cls:=.type "zip",data:=.fields #[.none,.bool false,.bool false,.ref (tzH2 h l1 l2).objs.size,.ref (tzH3 h l1 l2).objs.size]}
theorem np0 (l1 l2:Addr)(xs ys:Array Value):Meets (Builtin.«zip.__new__» ⟨[.type "zip",.ref l1,.ref l2],[]⟩) (λ_ R s=>s.heap.IsTuple l1 xs/\s.heap.IsTuple l2 ys/\R (.ok (.ret (.ref (tzH4 s.heap l1 l2).objs.size))) {s with heap:=tzH5 s.heap l1 l2}):=
 .of_wp λprog w A R s h=>by
  obtain⟨hp,g,d,tk,os⟩:=s
  obtain⟨g1,g2,h⟩:=h
  have hsub:=sub_zip
  have q1:Heap.IsTuple (Shared.heap ⟨hp,g,d,tk,os⟩) l1 xs:=g1
  have q2:Heap.IsTuple (Shared.heap ⟨hp.push {cls:=.type "tuple_iterator",data:=.fields #[.ref l1,.int 0 0]},g,d,tk,os⟩) l2 ys:=Heap.IsTuple.push g2 _
  wp_walk using Ao3 q1,Ao3 q2
  exact⟨_,rfl,h⟩
theorem mb0 {Q:Value->Shared->Prop}(g1:s.heap.IsTuple l1 xs)(g2:s.heap.IsTuple l2 ys)
  (k:∀h',IsZip h' (s.heap.objs.size+4) (s.heap.objs.size+2) (s.heap.objs.size+3) .none->IsPair h' (s.heap.objs.size+2) (.ref s.heap.objs.size) (.ref (s.heap.objs.size+1))->IsPair h' (s.heap.objs.size+3) .none .none->
   h'.IsTupleIter s.heap.objs.size l1 0->h'.IsTupleIter (s.heap.objs.size+1) l2 0->h'.objs.size=s.heap.objs.size+5->(∀c o,s.heap.get? c=some o->h'.get? c=some o)->Q (.ref (s.heap.objs.size+4)) {s with heap:=h'}):
  wpAny (model prog w) A (call (.type "zip") [.ref l1,.ref l2]) Q E s:=by
 refine callType_new F.called_zip (by decide) (F.typeCall_zip_2 _ _) (F.newCall_zip_2 _ _) (λobj=>F.args_object_init_3 obj _ _) F.entry_zip_new (np0 l1 l2 xs ys) ⟨g1,g2,?_⟩
 have z1:(tzH1 s.heap l1).objs.size=s.heap.objs.size+1:=Af6 ..
 have z2:(tzH2 s.heap l1 l2).objs.size=s.heap.objs.size+2:=by rw [Af6,z1]
 have z3:(tzH3 s.heap l1 l2).objs.size=s.heap.objs.size+3:=by rw [Af6,z2]
 have z4:(tzH4 s.heap l1 l2).objs.size=s.heap.objs.size+4:=by rw [Af6,z3]
 have z5:(tzH5 s.heap l1 l2).objs.size=s.heap.objs.size+5:=by rw [Af6,z4]
 have f5:(tzH5 s.heap l1 l2).get? (tzH4 s.heap l1 l2).objs.size=some _:=Ab7 _ rfl
 have f4:(tzH5 s.heap l1 l2).get? (tzH3 s.heap l1 l2).objs.size=some _:=Aa7 _ (Ab7 _ rfl)
 have f3:(tzH5 s.heap l1 l2).get? (tzH2 s.heap l1 l2).objs.size=some _:=Aa7 _ (Aa7 _ (Ab7 _ rfl))
 have f2:(tzH5 s.heap l1 l2).get? (tzH1 s.heap l1).objs.size=some _:=Aa7 _ (Aa7 _ (Aa7 _ (Ab7 _ rfl)))
 have f1:(tzH5 s.heap l1 l2).get? s.heap.objs.size=some _:=Aa7 _ (Aa7 _ (Aa7 _ (Aa7 _ (Ab7 _ rfl))))
 show _/\_
 rw [z2,z3,z4] at f5; rw [z1,z2] at f3; rw [z3] at f4; rw [z1] at f2; rw [z4]
 exact⟨⟨_,f5,rfl⟩,k _ f5 f3 f4 ⟨_,f1,rfl,rfl⟩ ⟨_,f2,rfl,rfl⟩ z5 λc o g=>Aa7 _ (Aa7 _ (Aa7 _ (Aa7 _ (Aa7 _ g))))⟩
end
def Itz (K:Aa3)(a b:Addr):It:=
  ⟨λi H=>∃xs ys x y,SqT K H a xs/\SqT K H b ys/\xs[i]?=some x/\ys[i]?=some y,
   λi H v H'=>∃p,H p=none/\v=.ref p/\∀xs ys,SqT K H a xs->SqT K H b ys->∃x y,xs[i]?=some x/\ys[i]?=some y/\H'=upd H p (.tup [x,y]),
   λi H=>∃xs ys,SqT K H a xs/\SqT K H b ys/\(xs.length<=i\/ ys.length<=i)⟩
theorem nk0 {P:Program}{w:World}{K:Aa3}{elts:List Expr}{x1:Nat}{tp:Pos}{z ti to' u1 u2 a b:Addr}(D:ZipApart z ti to' u1 u2 a b):
  Turn P w K (.Tuple elts x1 tp) (Itz K a b) [z,ti,to',u1,u2] z (λi h=>IsZip h z ti to' .none/\IsPair h ti (.ref u1) (.ref u2)/\(∃c d,IsPair h to' c d)/\h.IsTupleIter u1 a i/\h.IsTupleIter u2 b i) where
 mem:=by simp
 obj:=λi h st q hq=>by
  obtain⟨g1,g2,⟨c,d,g3⟩,⟨o4,g4,_,d4⟩,⟨o5,g5,_,d5⟩⟩:=st
  simp only [Ab2,Ad0,Ah8] at hq
  rcases hq with rfl|rfl|rfl|rfl|rfl
  ·exact⟨_,g1,λv e=>nomatch e⟩
  ·exact⟨_,g2,λv e=>nomatch e⟩
  ·exact⟨_,g3,λv e=>nomatch e⟩
  ·exact⟨_,g4,λv e=>by rw [d4] at e; cases e⟩
  ·exact⟨_,g5,λv e=>by rw [d5] at e; cases e⟩
 keep:=λi h h' st k=>by
  obtain⟨g1,g2,⟨c,d,g3⟩,⟨o4,g4,r4⟩,⟨o5,g5,r5⟩⟩:=st
  exact⟨k z (by simp) _ g1,k ti (by simp) _ g2,⟨c,d,k to' (by simp) _ g3⟩,⟨o4,k u1 (by simp) _ g4,r4⟩,⟨o5,k u2 (by simp) _ g5,r5⟩⟩
 item:=by
  intro X hP hw hK hc i pins s σ H E I hf st hg
  subst hP hw hK
  obtain⟨xs,ys,x,y,ha,hb,hx,hy⟩:=hg
  obtain⟨g1,g2,⟨c,d,g3⟩,g4,g5⟩:=st
  obtain⟨its,rv,p,hz⟩:=I.tuple ha
  obtain⟨jts,rw',p',hz'⟩:=I.tuple hb
  obtain⟨u,hu,ru⟩:=rv.get hx
  obtain⟨v,hv,rv'⟩:=rw'.get hy
  have hT:s.TypeIs (.ref z) "zip" :=⟨_,g1,rfl⟩
  unfold pyNext
  refine Aa0 (As7 (Ag1 (name:=Str.ofString "__next__") hT F.slot_zip_next (Ah6 F.slot_zip_next hT F.entry_zip_next
   (lD0 (x:=u) (y:=v) D g1 g2 g3 g4 g5 (show s.heap.IsTuple a its.toArray from p) (show s.heap.IsTuple b jts.toArray from p') (by simpa using hu) (by simpa using hv) λh' a1 a2 a3 a4 a5 a6 a7=>Aa8 ⟨_,rfl,?_⟩) (F.args_zip_next_1 _))))
  refine wpAny_letOwnedTupleGo_zip a1 λh'' gz sb=> ?_
  have hn:H s.heap.objs.size=none:=I.hok.fresh (Ab1 _)
  have zlt:z<s.heap.objs.size:=Ab6 g1
  have hfp:∀q∈ [z,ti,to',u1,u2],q<s.heap.objs.size:=λq hq=>by
   obtain⟨_,g4',_⟩:=id g4
   obtain⟨_,g5',_⟩:=id g5
   simp only [Ab2,Ad0,Ah8] at hq
   rcases hq with rfl|rfl|rfl|rfl|rfl
   ·exact Ab6 g1
   ·exact Ab6 g2
   ·exact Ab6 g3
   ·exact Ab6 g4'
   ·exact Ab6 g5'
  have ht2:h''.get? s.heap.objs.size=some {cls:=.type "tuple",data:=.seq #[u,v]}:=sb.extBut _ _ (Al7 zlt) a5
  have I2:Inv X pins σ (upd H s.heap.objs.size (.tup [x,y])) {s with heap:=h''}:=by
   refine I.turnedLaid (t':=s.toks) (it:=[z,ti,to',u1,u2]) (λq o hq e=> ?_) (λq hq=> ?_) (Ab1 _) ?_
   ·simp only [Ab2,Ad0,Ah8,not_or] at hq
    exact sb.extBut _ _ hq.1 (a7 q o hq.1 hq.2.2.1 hq.2.2.2.1 hq.2.2.2.2 e)
   ·obtain⟨f0,f1,f2,f3,f4,f5⟩:=hf q hq
    exact⟨f0,f1,f3,f4,f5⟩
   ·exact⟨by simp only [Ac4,Ak1]; rw [Ae1]; decide,[u,v],.cons ru (.cons rv' .nil),⟨_,ht2,rfl,0,rfl⟩,_,ht2,rfl⟩
  have at1:∀{h h':Heap} {u l:Addr} {i:Nat},h.IsTupleIter u l i->(∀o,h.get? u=some o->h'.get? u=some o)->h'.IsTupleIter u l i:=λ⟨o,e,r⟩ f=>⟨o,f o e,r⟩
  refine⟨.ref s.heap.objs.size,_,I2,rfl,⟨_,hn,rfl,λxs' ys' q1 q2=> ?_⟩,⟨gz,sb.extBut _ _ D.TIz (a7 _ _ D.TIz D.TITO D.TIi1 D.TIi2 g2),⟨_,_,sb.extBut _ _ D.TOz a2⟩,at1 a3 λo g=>sb.extBut _ _ D.i1z g,at1 a4 λo g=>sb.extBut _ _ D.i2z g⟩,λq hq=> ?_⟩
  ·rw [I.tuple_inj q1 ha,I.tuple_inj q2 hb]
   exact⟨x,y,hx,hy,rfl⟩
  ·rw [aj0 (Ad4 (hfp q hq))]
   exact(hf q hq).1
 done:=by
  intro X hP hw hK hc i pins s σ H E I hf st hg
  subst hP hw hK
  obtain⟨xs,ys,ha,hb,he⟩:=hg
  obtain⟨g1,g2,⟨c,d,g3⟩,g4,g5⟩:=st
  obtain⟨its,rv,p,hz⟩:=I.tuple ha
  obtain⟨jts,rw',p',hz'⟩:=I.tuple hb
  have l1:=rv.length
  have l2:=rw'.length
  have hT:s.TypeIs (.ref z) "zip" :=⟨_,g1,rfl⟩
  unfold pyNext
  refine Aa0 (As7 (Ag1 (name:=Str.ofString "__next__") hT F.slot_zip_next (Ah6 F.slot_zip_next hT F.entry_zip_next
   (oo0 (xs:=its.toArray) (ys:=jts.toArray) (I.ok.hd hc) D g1 g2 g3 g4 g5 p p' (he.imp (λq=>by simp; omega) λq=>by simp; omega) λh' e hk ge=> ?_) (F.args_zip_next_1 _))))
  obtain⟨o,ho,hc'⟩:=ge
  refine Aa0 (Au1 (T:= "StopIteration") (b:=true) ⟨o,ho,hc'⟩ isSubtype_stop (Aa8 ⟨rfl,?_⟩))
  have nit:∀q u,H q=some u->q∉ [z,ti,to',u1,u2]:=λq u e zz=>by rw [(hf q zz).1] at e; cases e
  have kk:∀q o,q∉ [z,ti,to',u1,u2]->s.heap.get? q=some o->h'.get? q=some o:=λq o hq e=>by
   simp only [Ab2,Ad0,Ah8,not_or] at hq
   exact hk q o hq.1 hq.2.2.1 hq.2.2.2.1 hq.2.2.2.2 e
  refine I.step (g':=s.gens) (d':=s.drawn) (t':=s.toks) (ch:=[z,ti,to',u1,u2]) (λq hq=> ?_) (λq o _ _ hc e _=> ?_) (λq o _ _ hc e _=>⟨o.slots,?_⟩) (λq o hc e n=>n) (λq o hc e=>⟨o,?_⟩) (λ_ _ e=>e) (λ_ _ _ e=>e) (λq ps e=>⟨#[],by rw [e]; simp⟩) (λm hm=> ?_) (λq u e=> ?_) I.bare
  ·obtain⟨f0,f1,f2,f3,f4,f5⟩:=hf q hq
   exact⟨f3,f1,f4,f5⟩
  ·exact kk q o hc e
  ·exact kk q o hc e
  ·exact kk q o hc e
  ·obtain⟨o,es,ep,ho,r⟩:=hm
   exact⟨o,es,ep,kk _ o (λzz=>(hf _ zz).2.1 rfl) ho,r⟩
  ·refine(I.hok q u e).stay (λc v hc g=>kk c v ?_ g) (λ_ g=>g) λ_ _ g=>g
   rcases hc with zz|zz
   ·rw [zz]; exact nit q u e
   ·exact nit c _ zz
 self:=λA i s Q E st h=>wpAny_pyIter_zip st.1 h
section
variable {X:Cx}
def iZip (K:Aa3)(ta:TA):TI:=λσ H R=>ta σ H λvs H1=>∃a b xs ys,vs=[.ref a,.ref b]/\SqT K H1 a xs/\SqT K H1 b ys/\R (Itz K a b) H1
theorem rW0 {a b:Expr}{ta:TA}{elts:List Expr}{x1:Nat}{tp p pos:Pos}(hg:Gl X "zip") (hm:X.mg "zip" =none) (ha:PA X [a,b] ta) (hv:bootBuiltins "zip" =some (.type "zip"):=by rfl) (hs:starEach [a,b] X.env=(false,eval a X.env)::starEach [b] X.env:=by rfl) (hpl:(backTo pos (starEach [b] X.env)).any (·.1)=false:=by rfl):
  PI X (.Tuple elts x1 tp) (.Call (.Name "zip" p) [a,b] [] pos) (iZip X.K ta):=by
 intro pins s σ H R I h
 refine Aj2 (en0 I hg hm hv (Ak8 (thn (ha pos pins s σ H _ I h) λus s1 ⟨vs,H1,I1,r1,q1⟩=> ?_) hs hpl) (by decide) (by decide))
 obtain⟨c,d,xs,ys,rfl,hc,hd,q⟩:=q1
 obtain⟨u,v,rfl,ru,rv⟩:=nF0 r1
 cases ru; cases rv
 obtain⟨its,_,p1,_⟩:=I1.tuple hc
 obtain⟨jts,_,p2,_⟩:=I1.tuple hd
 obtain⟨o1,e1,_⟩:=id p1
 obtain⟨o2,e2,_⟩:=id p2
 have lc:c<s1.heap.objs.size:=Ab6 e1
 have ld:d<s1.heap.objs.size:=Ab6 e2
 refine mb0 p1 p2 λh' g1 g2 g3 g4 g5 sz kk=>wpAny_pyIter_zip g1 ?_
 have I2:Inv X pins σ H1 {s1 with heap:=h'}:=I1.kept (t':=s1.toks) kk
 have D:ZipApart (s1.heap.objs.size+4) (s1.heap.objs.size+2) (s1.heap.objs.size+3) s1.heap.objs.size (s1.heap.objs.size+1) c d:=by
  have up:∀{m n k:Nat},m<n->m≠n+k:=λh=>Ad4 (Nat.lt_add_right _ h)
  have nn:∀(n j k:Nat),j≠k->n+j≠n+k:=λn j k h q=>h (Nat.add_left_cancel q)
  exact⟨nn _ 2 4 (by decide),nn _ 3 4 (by decide),nn _ 0 4 (by decide),nn _ 1 4 (by decide),nn _ 2 3 (by decide),nn _ 2 0 (by decide),nn _ 2 1 (by decide),nn _ 3 0 (by decide),nn _ 3 1 (by decide),nn _ 0 1 (by decide),
   up (k:=4) lc,up (k:=3) lc,up (k:=0) lc,up (k:=1) lc,up (k:=4) ld,up (k:=3) ld,up (k:=0) ld,up (k:=1) ld⟩
 refine⟨_,[_,_,_,_,_],_,_,H1,rfl,I2,nk0 D,⟨g1,g2,⟨_,_,g3⟩,g4,g5⟩,λq hq=> ?_,q⟩
 simp only [Ab2,Ad0,Ah8] at hq
 rcases hq with rfl|rfl|rfl|rfl|rfl<;>exact I1.fpOk (by first|exact Ab1 _|exact Ap7 _ _) (I1.hok.fresh (by first|exact Ab1 _|exact Ap7 _ _))
end
end L2
namespace L2.BD
section
variable {X:Cx}{Y:Fx}{a b:Expr}{fa:En->Option (List T)}
def zipT:List T->List T->List T
 |x::xs,y::ys=> .tup [x,y]::zipT xs ys
 |_,_=> []
theorem iV0:∀{xs ys:List T} {i:Nat} {t:T},(zipT xs ys)[i]?=some t->∃x y,xs[i]?=some x/\ys[i]?=some y/\t=.tup [x,y]
 | [],_,_,_,e=>by simp [zipT] at e
 |_::_,[],_,_,e=>by simp [zipT] at e
 |x::xs,y::ys,0,t,e=>by simp [zipT] at e; exact⟨x,y,rfl,rfl,e.symm⟩
 |x::xs,y::ys,i+1,t,e=>by
  obtain⟨u,v,h1,h2,h3⟩:=iV0 (xs:=xs) (ys:=ys) (i:=i) (t:=t) (by simpa [zipT] using e)
  exact⟨u,v,by simpa using h1,by simpa using h2,h3⟩
theorem iL0:∀(xs ys:List T),xs.length<=(zipT xs ys).length\/ ys.length<=(zipT xs ys).length
 | [],_=> .inl (Ae5 _)
 |_::_,[]=> .inr (Ae5 _)
 |x::xs,y::ys=>(iL0 xs ys).imp Nat.succ_le_succ Nat.succ_le_succ
def oy0 (g:En->Option (List T)):En->Option (List T):=λε=>match g ε with|some [.tup xs,.tup ys]=>some (zipT xs ys)|_=>none
theorem rO0 (hg:Gl X "zip") (hm:X.mg "zip" =none) (ha:BA X Y [a,b] fa) (hv:bootBuiltins "zip" =some (.type "zip"):=by rfl) (hs:starEach [a,b] X.env=(false,eval a X.env)::starEach [b] X.env:=by rfl) (hpl:(backTo pos (starEach [b] X.env)).any (·.1)=false:=by rfl):
  SI X Y (.Tuple elts x1 tp) (.Call (.Name "zip" p) [a,b] [] pos) (oy0 fa):=PI.imp (rW0 hg hm ha hv hs hpl) λσ H R ⟨F,ε,ts,r,hf,k⟩=>by
 unfold oy0 at hf
 split at hf
 ·rename_i ts us qf
  cases hf
  refine⟨F,ε,_,r,qf,λF1 vs H1 m1 r1=> ?_⟩
  obtain⟨x,y,rfl,rx,ry⟩:=Rbs.two r1
  obtain⟨c,xs,rfl,hc,rxs⟩:=rx.tup_
  obtain⟨d,ys,rfl,hd,rys⟩:=ry.tup_
  refine⟨c,d,xs,ys,rfl,SqT.of hc,SqT.of hd,k F1 H1 _ m1 λi F2 H2 kp tk=> ?_⟩
  have sc:SqT X.K H2 c xs:=SqT.of (kp.tup c _ hc)
  have sd:SqT X.K H2 d ys:=SqT.of (kp.tup d _ hd)
  refine⟨λt e=> ?_,λe=>⟨xs,ys,sc,sd,by rw [rxs.length,rys.length,e]; exact iL0 _ _⟩⟩
  obtain⟨u,v,h1,h2,rfl⟩:=iV0 e
  obtain⟨x,hx,rx⟩:=rxs.get h1
  obtain⟨y,hy,ry⟩:=rys.get h2
  refine⟨⟨xs,ys,x,y,sc,sd,hx,hy⟩,λw H' ⟨pp,hp,e1,e2⟩=> ?_⟩
  obtain⟨x',y',q1,q2,q3⟩:=e2 xs ys sc sd
  rw [hx] at q1; cases q1
  rw [hy] at q2; cases q2
  subst e1 q3
  have ml:=Mono.laid (o:=.tup [x,y]) tk hp
  exact⟨F2,ml,.tup ag0 (.cons ((rx.keep kp).keep ml.keep) (.cons ((ry.keep kp).keep ml.keep) .nil))⟩
 ·cases hf
end
end L2.BD
namespace L2
theorem oY0 {α β:Type} [DecidableEq α] [DecidableEq β]: @LawfulBEq (Sum α β) instBEqOfDecidableEq:=inferInstance
instance memKey (k:Key) (l:List Key):Decidable (k∈l):=decidable_of_iff (l.any (λx=>decide (x=k))=true) (by simp)
def metK:List Key->List Key
 |ks=>ks.foldl (λacc k=>if k∈acc then acc else acc++ [k]) []
theorem gN0 (ks:List Key)(k:Key):metK (ks++ [k])=if k∈metK ks then metK ks else metK ks++ [k]:=by
 unfold metK
 rw [List.foldl_append]
 rfl
theorem pC0 (ks:List Key):(metK ks).length<=ks.length:=by
 have gen:∀(ks acc:List Key),(ks.foldl (λacc k=>if k∈acc then acc else acc++ [k]) acc).length<=acc.length+ks.length:=by
  intro ks
  induction ks with
  |nil=>intro acc; simp
  |cons k ks ih=>
   intro acc
   rw [List.foldl_cons]
   refine Ac6 (ih _) ?_
   split
   ·simp
   ·simp; omega
 have:=gen ks []
 simp only [Ak1,Af9] at this
 exact this
section
variable {prog:Program}{w:World}{A:Around}{E:Value->Shared->Prop}{s:Shared}
theorem fF0 {h:Heap}{S S':Key->Bool}(g:h.SetOf (aO0 prog w) a S n)(e:S=S')(en:n=n'):h.SetOf (aO0 prog w) a S' n':=by
 subst e en; exact g
theorem jG0 {h h':Heap}{S:Key->Bool}(g:h.SetOf (aO0 prog w) a S n)(f:∀o,h.get? a=some o->h'.get? a=some o):h'.SetOf (aO0 prog w) a S n:=by
 obtain⟨o,es,ep,tb,ho,r⟩:=g
 exact⟨o,es,ep,tb,f o ho,r⟩
theorem po0 (h:(aO0 prog w).is k v=true):v.scannable=true:=by
 rcases aX0 (k:=k) (v:=v) h with⟨i,t,rfl,rfl⟩|⟨x,t,rfl,rfl⟩<;>rfl
theorem oi0 {R:Result->Shared->Prop}{its:Array Value}{ks:List Key}(hh:A.in1.handled=none)(hne:l≠u)(S:Addr)(nu:S≠u)(nl:S≠l)(hks:ks.length=its.size)(hk:∀(i:Nat) v k,its[i]?=some v->ks[i]?=some k->(aO0 prog w).is k v=true)(hb:its.size+1<scanBound):
  ∀(m i:Nat) (s:Shared),its.size - i=m->i<=its.size->s.heap.IsListIter u l i->s.heap.IsList l its->s.heap.SetOf (aO0 prog w) S (λk=>decide (k∈metK (ks.take i))) (metK (ks.take i)).length->
   (∀h' t',h'.SetOf (aO0 prog w) S (λk=>decide (k∈metK ks)) (metK ks).length->(∀b o,b≠S->b≠u->s.heap.get? b=some o->h'.get? b=some o)->R (.ok (.ret .none)) {s with heap:=h',toks:=t'})->
   codeAny (model prog w) A (.builtin "set.update.loop" ⟨[.ref S,.ref u],[]⟩) R s:=by
 intro m
 induction m with
 |zero=>
  intro i s hm hi gu gl gs k
  have e:i=its.size:=by omega
  subst e
  refine Am6 F.entry_set_update_loop ?_; rw [Around.under_plainId F.plain_set_update_loop _]
  show wpAny _ A.in1 (pyNext (.ref u)>>=_) _ _ s; refine Aa0 (wpAny_pyNext_list_end hh gu gl (by simp) λh' eb=> ?_)
  show wpAny _ A.in1 (ret Value.none) _ _ _; refine Aa8 ?_
  rw [<- hks,Ae7] at gs
  exact k h' s.toks (jG0 gs λo g=>eb _ o nu g) λb o n1 n2 g=>eb b o n2 g
 |succ m ih=>
  intro i s hm hi gu gl gs k
  have hlt:i<its.size:=by omega
  have hlk:i<ks.length:=by omega
  have kv:=hk i its[i] ks[i] (At2 hlt) (Aa4 hlk)
  refine Am6 F.entry_set_update_loop ?_; rw [Around.under_plainId F.plain_set_update_loop _]
  show wpAny _ A.in1 (pyNext (.ref u)>>=_) _ _ s; refine Aa0 (wpAny_pyNext_list_item gu gl (At2 hlt) λh1 gu1 sb1=> ?_)
  have gs1:=jG0 gs λo g=>(sb1.2 S nu).trans g
  show wpAny _ A.in1 (holding [its[i]] (setAdd S its[i])>>=_) _ _ _; refine Aa0 (Al3 ?_); unfold setAdd; refine Al3 (Aa0 ((aO0 prog w).pyHash kv ?_))
  have room:(metK (ks.take i)).length+1<scanBound:=by have:=pC0 (ks.take i); rw [Af7] at this; omega
  refine wpAny_setAddHashed_of (knd:=aO0 prog w) (s:={s with heap:=h1,toks:=s.toks+1}) kv (po0 kv) gs1 room λh2 sb2 gs2=> ?_
  have et:ks.take (i+1)=ks.take i++ [ks[i]]:=by rw [Ag9,Aa4 hlk]; rfl
  have gs3:h2.SetOf (aO0 prog w) S (λk=>decide (k∈metK (ks.take (i+1)))) (metK (ks.take (i+1))).length:=by
   refine fF0 gs2 (funext λq=> ?_) ?_
   ·rw [et,gN0]
    by_cases z:ks[i]∈metK (ks.take i)
    ·rw [if_pos z]
     by_cases y:q=ks[i]
     ·subst y; simp [z]
     ·simp [y]
    ·rw [if_neg z]
     simp [Ad8,Bool.decide_or]
   ·rw [et,gN0]
    by_cases z:ks[i]∈metK (ks.take i)
    ·simp [z]
    ·simp [z]
  have at1:∀{h h':Heap},h.IsListIter u l (i+1)->(∀o,h.get? u=some o->h'.get? u=some o)->h'.IsListIter u l (i+1):=λ⟨o,e,r⟩ f=>⟨o,f o e,r⟩
  refine Aa8 ⟨Ap5 F.plain_set_update_loop _,ih (i+1) _ (by omega) hlt (at1 gu1 λo g=>(sb2.2 u (Ne.symm nu)).trans g) ((gl.extBut sb1.extBut hne).extBut sb2.extBut (Ne.symm nl)) gs3 λh3 t3 g3 kk=> ?_⟩
  exact k h3 t3 g3 λb o n1 n2 g=>kk b o n1 n2 ((sb2.2 b n1).trans ((sb1.2 b n2).trans g))
theorem lM0 {ks:List Key}{Q:Value->Shared->Prop}(hh:A.handled=none)(gl:s.heap.IsList l its)(hks:ks.length=its.size)(hk:∀(i:Nat) v k,its[i]?=some v->ks[i]?=some k->(aO0 prog w).is k v=true)(hb:its.size+1<scanBound)
  (k:∀h' t',h'.SetOf (aO0 prog w) s.heap.objs.size (λk=>decide (k∈metK ks)) (metK ks).length->(∀b o,b<s.heap.objs.size->s.heap.get? b=some o->h'.get? b=some o)->Q (.ref s.heap.objs.size) {s with heap:=h',toks:=t'}):
  wpAny (model prog w) A (call (.type "set") [.ref l]) Q E s:=by
 obtain⟨c,tl,mro⟩:=F.called_set.mro
 have made:=F.called_set.made
 have sub:=F.called_set.sub
 refine wpAny_call (codeAny_of_tree ?_); show wpAny _ _ (callAny (.type "set") _) _ _ _
 refine Aa8 ⟨Code.quiet_builtin _ (by decide +kernel),Am6 F.entry_type_call ?_⟩; rw [Around.under_plain (weight_type_call_type "set" [.ref l] []) rfl]
 have n1:=F.called_set.notType
 have n2:=F.called_set.canCreate
 have n3:=F.typeCall_set_1 (.ref l)
 (repeat (any_goals (first|assumption|wp_step)))
 refine Ao4 (code_set_new_1 (.ref l) (E:=E) (Q₁:=λobj s₁=>∃led:Bool,obj=.ref s.heap.objs.size/\s₁={s with heap:=s.heap.push {cls:=.type "set",dict:=none,data:=.set #[] 0 (.fresh 0 0 led)}}) λled=>⟨led,rfl,rfl⟩) λr s1 hr=> ?_
 cases r with
 |error e=>exact hr
 |ok fl=>
  cases fl with
  |ret obj=>
   obtain⟨led,rfl,rfl⟩:=hr
   have gS:(s.heap.push {cls:=.type "set",dict:=none,data:=.set #[] 0 (.fresh 0 0 led)}).get? s.heap.objs.size=some {cls:=.type "set",dict:=none,data:=.set #[] 0 (.fresh 0 0 led)}:=Ab7 _ rfl
   have gT:Shared.TypeIs {s with heap:=s.heap.push {cls:=.type "set",dict:=none,data:=.set #[] 0 (.fresh 0 0 led)}} (.ref s.heap.objs.size) "set" :=⟨_,gS,rfl⟩
   have il:=F.called_set.init.lookup
   have ib:=F.called_set.init.bind (.ref s.heap.objs.size)
   (repeat (any_goals (first|assumption|wp_step)))
   refine Ao4 (codeAny_call_builtin (R:=wants (λr s₂=>r=.none/\∃h' tk,s₂={s with heap:=h',toks:=tk}/\h'.SetOf (aO0 prog w) s.heap.objs.size (λk=>decide (k∈metK ks)) (metK ks).length/\
     (∀b o,b<s.heap.objs.size->s.heap.get? b=some o->h'.get? b=some o)) E) F.called_set.init.plain F.entry_set_init (check_set_init_1 gT ?_)) λr₂ s₂ hr₂=> ?_
   ·obtain⟨⟨oc,od,ob,os⟩,go,cl,nl,dl⟩:=id gl
    simp only at cl dl
    subst cl; subst dl
    have go':(s.heap.push {cls:=.type "set",dict:=none,data:=.set #[] 0 (.fresh 0 0 led)}).get? l=some {cls:=.type "list",dict:=od,data:=.seq its nl,slots:=os}:=Aa7 _ go
    have m1:=F.sub_list_set
    have m2:=F.sub_list_frozenset
    have m3:(Value.type "list" ==Value.type "dict")=false:=by decide
    have gl1:(s.heap.push {cls:=.type "set",dict:=none,data:=.set #[] 0 (.fresh 0 0 led)}).IsList l its:=⟨_,go',rfl,nl,rfl⟩
    unfold Builtin.«set.__init__» noKeywords Builtin.Frozenset.updateFrom
    generalize hPI:pyIter=PI
    (wp_walk; subst hPI)
    refine Ao9 gl1 (Aa0 (wpAny_runValue ?_))
    have ll:l<s.heap.objs.size:=Ab6 go
    have h3:A.in1.in1.in1.handled=none:=by simp [hh]
    refine oi0 (its:=its) (ks:=ks) (l:=l) h3 (by rw [Af6]; exact Ad4 (Am9 ll)) s.heap.objs.size (by rw [Af6]; exact Ad4 (Al8 _)) (Al7 ll) hks hk hb (its.size - 0) 0 _ (by omega) (Ae5 _) ⟨_,Ab7 _ rfl,rfl,rfl⟩ (gl1.push _) ?_ λh' t' g' kk=> ?_
    ·exact fF0 (@Obj.SetObjOf.setOf _ _ _ _ instBEqOfDecidableEq oY0 _ _ _ _ _ _ (@PyProof.Rows.setObjOf_fresh prog w Key _ instBEqOfDecidableEq oY0 (aO0 prog w) led) (Aa7 _ gS) (by unfold scanBound; omega)) (funext λq=>by exact(Ad3 (by rw [Al5]; exact Ad0)).symm) rfl
    ·show wpAny _ _ _ _ _ _; refine Aa8 ?_; show wpAny _ _ (ret Value.none) _ _ _
     refine Aa8 ⟨rfl,h',t',rfl,g',λb o hb e=> ?_⟩
     exact kk b o (Ad4 hb) (by rw [Af6]; exact Ad4 (Am9 hb)) (Aa7 _ (Aa7 _ e))
   ·cases r₂ with
    |error e=>exact hr₂
    |ok fl₂=>
     cases fl₂ with
     |ret r=>
      obtain⟨rfl,h',tk,rfl,gS',kk⟩:=hr₂
      (repeat (any_goals (first|assumption|wp_step)))
      exact k _ _ gS' kk
     |_=>exact hr₂.elim
  |_=>exact hr.elim
end
section
variable {X:Cx}{e:Expr}{p p2 pos pos2:Pos}
theorem la0 (hc:X.calm=true)(hgl:Gl X "len") (hml:X.mg "len" =none) (hgs:Gl X "set") (hms:X.mg "set" =none) (he:PE X e te) (hv:bootBuiltins "len" =some (.builtin "len"):=by rfl) (hv2:bootBuiltins "set" =some (.type "set"):=by rfl)
  (hs:starEach [.Call (.Name "set" p2) [e] [] pos2] X.env=[(false,eval (.Call (.Name "set" p2) [e] [] pos2) X.env)]:=by rfl) (hs2:starEach [e] X.env=[(false,eval e X.env)]:=by rfl):
  PE X (.Call (.Name "len" p) [.Call (.Name "set" p2) [e] [] pos2] [] pos) (λσ H Q=>te σ H λx H1=>∃a ks,x=.ref a/\SqL X.K H1 a (ks.map kV)/\ks.length+1<scanBound/\Q (.int ((metK ks).length:Int)) H1):=by
 intro pins s σ H Q I h
 refine Aj2 (en0 I hgl hml hv ?_ (by decide) (by decide))
 refine Aq5 ?_ hs rfl
 rw [hs]
 show wpAny _ _ (spliced [(false,_)]) _ _ s
 refine As1 ?_
 refine Aj2 (en0 I hgs hms hv2 ?_ (by decide) (by decide))
 refine Ak8 ?_ hs2 rfl
 rw [hs2]
 show wpAny _ _ (spliced [(false,_)]) _ _ s
 refine As1 (thn (he pins s σ H _ I h) λu s1 ⟨x,H1,I1,r1,a,ks,ev,ha,hb,q⟩=>As9 ?_)
 subst ev
 cases r1
 obtain⟨its,rv,pl,_⟩:=I1.list ha
 have hl:ks.length=its.toArray.size:=by rw [Ab8,<- rv.length,Aa1]
 refine lM0 (ks:=ks) (I1.ok.hd hc) pl.isList hl (λi v k g1 g2=> ?_) (by rw [<- hl]; exact hb) λh' t' gS kk=> ?_
 ·obtain⟨u,h1,h2⟩:=rv.get (i:=i) (x:=kV k) (by rw [Ab0,g2]; rfl)
  have:its[i]?=some v:=by simpa using g1
  rw [this] at h1
  cases h1
  exact le0 h2
 ·have I2:Inv X pins σ H1 {s1 with heap:=h',toks:=t'}:=I1.kept λb o g=>kk b o (Ab6 g) g
  refine As9 ?_
  obtain⟨o,es,ep,tb,ho,hex,hd,_,_,hbd,hf,hn⟩:=gS
  refine call_len_set ho hex hd hf (by unfold scanBound at hbd; omega) ⟨.int _,H1,(I2.tok _),⟨_,rfl⟩,?_⟩
  rw [hn]
  exact q
end
def maxI:Int->List Int->Int
 |m,[]=>m
 |m,x::xs=>maxI (if x>m then x else m) xs
theorem gG0 (bt:Nat->Nat->Bool)(k:Nat):argBest bt (k+1)=if bt (k+1) (argBest bt k) then k+1 else argBest bt k:=rfl
theorem hQ0:∀(xs:List Int) (m y:Int),maxI m (xs++ [y])=if y>maxI m xs then y else maxI m xs
 | [],m,y=>rfl
 |x::xs,m,y=>by
  show maxI _ (xs++ [y])=_
  rw [hQ0 xs]
  rfl
theorem eN0 (n:Int)(ns:List Int)(bt:Nat->Nat->Bool)(hb:∀i j x y,(n::ns)[i]?=some x->(n::ns)[j]?=some y->bt i j=decide (x>y)):∀k,k<=ns.length->(n::ns)[argBest bt k]?=some (maxI n (ns.take k))
 |0,_=>rfl
 |k+1,h=>by
  have ih:=eN0 n ns bt hb k (by omega)
  have hk:k<ns.length:=by omega
  have e1:(n::ns)[k+1]?=some ns[k]:=by rw [Ae9]; exact Aa4 hk
  have et:ns.take (k+1)=ns.take k++ [ns[k]]:=by rw [Ag9,Aa4 hk]; rfl
  rw [gG0,hb _ _ _ _ e1 ih,et,hQ0]
  by_cases c:ns[k]>maxI n (ns.take k)
  ·rw [Ad9 c,if_pos rfl,if_pos c]; exact e1
  ·rw [Ad3 c,if_neg Ab4,if_neg c]; exact ih
section
variable {X:Cx}
theorem jF0 {ns:List Int}{its:List Value}(rv:Vals (ns.map V.int) its){i:Nat}{v:Value}(h:its.toArray[i]?=some v):∃m t,ns[i]?=some m/\v=.int m t:=by
 have h:its[i]?=some v:=by simpa using h
 have hi:i<its.length:=(Aa9.mp h).1
 have hn:i<ns.length:=by have:=rv.length; rw [Aa1] at this; omega
 obtain⟨u,h1,h2⟩:=rv.get (i:=i) (x:=V.int ns[i]) (by rw [Ab0,Aa4 hn]; rfl)
 rw [h] at h1
 cases h1
 obtain⟨t,rfl⟩:=h2
 exact⟨_,t,Aa4 hn,rfl⟩
theorem hG0 (hc:X.calm=true):ds0 X (.builtin "max") (λxs H Q=>∃(a:Addr) (n:Int) (ns:List Int),xs=[.ref a]/\(SqL X.K H a ((n::ns).map V.int)\/ SqT X.K H a ((n::ns).map V.int))/\Q (.int (maxI n ns)) H):=by
 intro pins s σ H xs us Q I r h
 obtain⟨a,n,ns,rfl,ha,q⟩:=h
 obtain⟨u,rfl,ru⟩:=gp0 r
 cases ru
 have hh:X.A.in1.handled=none:=by simp [I.ok.hd hc]
 have cmp:∀{its:List Value},Vals ((n::ns).map V.int) its->CmpOf X.prog X.w X.A.in1 CmpOp.Gt (λi v=>its.toArray[i]?=some v) (λi j=>decide ((n::ns).getD i 0>(n::ns).getD j 0)):=by
  intro its rv i j vi vj s Q E h1 h2 q
  obtain⟨x,t,e1,rfl⟩:=jF0 rv h1
  obtain⟨y,t',e2,rfl⟩:=jF0 rv h2
  refine gt_int ?_
  have q:Q (.bool (decide ((n::ns).getD i 0>(n::ns).getD j 0))) s:=q
  rw [Af1,Af1,e1,e2] at q
  exact q
 have bt:∀i j x y,(n::ns)[i]?=some x->(n::ns)[j]?=some y->(λi j=>decide ((n::ns).getD i 0>(n::ns).getD j 0)) i j=decide (x>y):=λi j x y e1 e2=>by
  show decide ((n::ns).getD i 0>(n::ns).getD j 0)=_
  rw [Af1,Af1,e1,e2]; rfl
 have fin:∀{its:List Value} {v:Value},Vals ((n::ns).map V.int) its->its.toArray[argBest (λi j=>decide ((n::ns).getD i 0>(n::ns).getD j 0)) (its.toArray.size - 1)]?=some v->RelV (V.int (maxI n ns)) v:=λ{its v} rv g=>by
  have el:its.toArray.size - 1=ns.length:=by have:=rv.length; simp at this; rw [Ab8,<- this]; omega
  rw [el] at g
  obtain⟨m,t,e,rfl⟩:=jF0 rv g
  rw [eN0 n ns _ bt _ (Ab1 _),Ae7] at e
  cases e
  exact⟨t,rfl⟩
 have pos:∀{its:List Value},Vals ((n::ns).map V.int) its->0<its.toArray.size:=λ{its} rv=>by have:=rv.length; simp at this; rw [Ab8,<- this]; omega
 rcases ha with ha|ha
 ·obtain⟨its,rv,pl,_⟩:=I.list ha
  have la:a<s.heap.objs.size:=let ⟨o,e,_⟩:=pl.isList; Ab6 e
  refine call_max_walk (Ao9 pl.isList ⟨_,_,_,_,_,_,_,rfl,Walks.list hh s.heap.objs.size a (Ad4 la) its.toArray,⟨⟨_,Ab7 _ rfl,rfl,rfl⟩,pl.isList.push _⟩,λb hb=> ?_,pos rv,cmp rv,λv h' tk g k=> ?_⟩)
  ·rw [Af6]
   rcases Ab2.mp hb with rfl|hb
   ·exact Al8 _
   ·rw [Aa6.mp hb]; exact Am9 la
  ·exact⟨.int _,H,I.kept λb o e=>k b o (λz=>by rw [Aa6.mp z] at e; exact absurd (Ab6 e) (Ai6 _)) (Aa7 _ e),fin rv g,q⟩
 ·obtain⟨its,rv,pl,_⟩:=I.tuple ha
  have pl:s.heap.IsTuple a its.toArray:=pl
  have la:a<s.heap.objs.size:=let ⟨o,e,_⟩:=pl; Ab6 e
  refine call_max_walk (Ao3 pl ⟨_,_,_,_,_,_,_,rfl,Walks.tuple hh s.heap.objs.size a (Ad4 la) its.toArray,⟨⟨_,Ab7 _ rfl,rfl,rfl⟩,pl.push _⟩,λb hb=> ?_,pos rv,cmp rv,λv h' tk g k=> ?_⟩)
  ·rw [Af6]
   rcases Ab2.mp hb with rfl|hb
   ·exact Al8 _
   ·rw [Aa6.mp hb]; exact Am9 la
  ·exact⟨.int _,H,I.kept λb o e=>k b o (λz=>by rw [Aa6.mp z] at e; exact absurd (Ab6 e) (Ai6 _)) (Aa7 _ e),fin rv g,q⟩
end
end L2
namespace L2.BD
section
variable {X:Cx}{Y:Fx}{e a b:Expr}{pos p p2 pos2:Pos}{f:En->Option T}{fa:En->Option (List T)}
def maxO:List Int->Option T
 |n::ns=>some (.int (maxI n ns))
 | []=>none
def φMax:List T->Option T
 | [.lst ts]=>(ec0 ts).bind maxO
 | [.tup ts]=>(ec0 ts).bind maxO
 |_=>none
theorem gO0 (h:(ec0 ts).bind maxO=some u):∃n ns,ts=(n::ns).map T.int/\u=.int (maxI n ns):=by
 cases q:ec0 ts with
 |none=>rw [q] at h; cases h
 |some ms=>
  rw [q] at h
  cases ms with
  |nil=>cases h
  |cons n ns=>cases h; exact⟨n,ns,jW0 q,rfl⟩
theorem o_max {K:Aa3}:OpN (λxs H Q=>∃(a:Addr) (n:Int) (ns:List Int),xs=[.ref a]/\(SqL K H a ((n::ns).map V.int)\/ SqT K H a ((n::ns).map V.int))/\Q (.int (maxI n ns)) H) φMax:=by
 intro F H xs ts u Q tk r h k
 unfold φMax at h
 split at h
 ·obtain⟨x,rfl,rx⟩:=Rbs.one r
  obtain⟨a,ys,rfl,ha,ry⟩:=rx.lst_
  obtain⟨n,ns,rfl,rfl⟩:=gO0 h
  rw [ry.ints] at ha
  exact⟨a,n,ns,rfl,.inl (SqL.of ha),k F _ H (.refl tk) (.int _)⟩
 ·obtain⟨x,rfl,rx⟩:=Rbs.one r
  obtain⟨a,ys,rfl,ha,ry⟩:=rx.tup_
  obtain⟨n,ns,rfl,rfl⟩:=gO0 h
  rw [ry.ints] at ha
  exact⟨a,n,ns,rfl,.inr (SqT.of ha),k F _ H (.refl tk) (.int _)⟩
 ·cases h
theorem oG0 (hc:X.calm=true)(hg:Gl X "max") (hm:X.mg "max" =none) (ha:BA X Y [a] fa) (hv:bootBuiltins "max" =some (.builtin "max"):=by rfl) (he:starEach [a] X.env=[(false,eval a X.env)]:=by rfl):SE X Y (.Call (.Name "max" p) [a] [] pos) (ay0 φMax fa):=eE0 (hG0 hc) o_max hg hm hv ha (by decide) (by decide) he rfl
def hK0:List T->Option (List Str)
 | []=>some []
 | .str i::ts=>(hK0 ts).map (i:: ·)
 |_=>none
theorem lj0 (ns:List Str):hK0 (ns.map T.str)=some ns:=by
 induction ns with
 |nil=>rfl
 |cons n ns ih=>show (hK0 (ns.map T.str)).map (n:: ·)=_; rw [ih]; rfl
theorem iC0:∀{ts:List T} {ns:List Str},hK0 ts=some ns->ts=ns.map T.str
 | [],ns,h=>by cases h; rfl
 | .str i::ts,ns,h=>by
  have h:(hK0 ts).map (i:: ·)=some ns:=h
  cases q:hK0 ts with
  |none=>rw [q] at h; cases h
  |some ms=>rw [q] at h; cases h; rw [iC0 q]; rfl
theorem Rps.strs {F:Addr->Prop}:∀{xs:List V} {ns:List Str},Rps F H xs (ns.map T.str)->xs=ns.map V.str
 |_,[],h=>by cases h; rfl
 |_,n::ns,h=>by
  cases h with
  |cons h r=>cases h; rw [Rps.strs r]; rfl
def ee0 (f:En->Option T):En->Option T:=λε=>match f ε with
 |some (.lst ts)=>(hK0 ts).bind λns=>if ns.length<=1000 then some (.int (metK (ns.map Sum.inr)).length) else none
 |_=>none
theorem ly0 (hc:X.calm=true)(hgl:Gl X "len") (hml:X.mg "len" =none) (hgs:Gl X "set") (hms:X.mg "set" =none) (he:BE X Y e f)
  (hs:starEach [.Call (.Name "set" p2) [e] [] pos2] X.env=[(false,eval (.Call (.Name "set" p2) [e] [] pos2) X.env)]:=by rfl) (hs2:starEach [e] X.env=[(false,eval e X.env)]:=by rfl):
  SE X Y (.Call (.Name "len" p) [.Call (.Name "set" p2) [e] [] pos2] [] pos) (ee0 f):=PE.imp (la0 hc hgl hml hgs hms he rfl rfl hs hs2) λσ H Q ⟨F,ε,u,r,hf,k⟩=>by
 unfold ee0 at hf
 split at hf
 ·rename_i ts qf
  cases q:hK0 ts with
  |none=>rw [q] at hf; cases hf
  |some ns=>
   rw [q] at hf
   simp only [Aa2] at hf
   split at hf
   ·rename_i hb
    cases hf
    refine⟨F,ε,_,r,qf,λF1 v H1 m1 rv=> ?_⟩
    obtain⟨a,xs,rfl,ha,rs⟩:=rv.lst_
    rw [iC0 q] at rs
    rw [rs.strs] at ha
    refine⟨a,ns.map Sum.inr,rfl,?_,?_,k F1 _ H1 m1 (.int _)⟩
    ·rw [Ad2]; exact SqL.of ha
    ·rw [Aa1]; unfold scanBound; omega
   ·cases hf
 ·cases hf
def kN0 (f:Str)(t:T):List (Str × T)->List (Str × T)
 | []=> [(f,t)]
 | (g,x)::r=>if g=f then(g,t)::r else(g,x)::kN0 f t r
theorem Rpf.put {F:Addr->Prop}(h:Rp F H v t):∀{fs:List (Str × V)} {ts:List (Str × T)},Rpf F H fs ts->Rpf F H (putF n v fs) (kN0 n t ts)
 |_,_,.nil=> .cons h .nil
 |_,_,.cons (k:=k) q r=>by
  unfold putF kN0
  by_cases e:k=n
  ·rw [if_pos e,if_pos e]; exact .cons h r
  ·rw [if_neg e,if_neg e]; exact .cons q (Rpf.put h r)
def cA0 (C:Addr)(i:Nat)(n:Str)(f:En->Option T):En->Option Fl:=λε=>match ε[i]? with
 |some (.ow (.ins C' fs))=>if C'=C/\fs.length<1000 then(f ε).bind λt=>some (.nx (ε.set i (.ow (.ins C' (kN0 n t fs))))) else none
 |_=>none
theorem cX0 (hx:PE X (.Name x px) (tVar i))(c:Cls X.K C)(na:NoAttr X.K C n)(he:SE X Y e f)(hs:swapsWith e (some (.Attribute (.Name x px) n apos)) pos.line X.env=pure false:=by rfl):
  SS X Y (.Assign [.Attribute (.Name x px) n apos] e pos) (cA0 C i n f):=PS.imp (dm0 hx he hs) λD σ H ⟨F,ε,fl,r,hg,k⟩=>by
 unfold cA0 at hg
 split at hg
 ·rename_i C' fs e1
  split at hg
  ·rename_i hc
   obtain⟨rfl,hl⟩:=hc
   cases q:f ε with
   |none=>rw [q] at hg; cases hg
   |some t=>
    rw [q] at hg
    cases hg
    refine⟨F,ε,t,r,q,λF1 v H1 m1 rv=> ?_⟩
    obtain⟨a,s1,nf,h0,hr⟩:=(r.mono m1).ow i _ e1
    obtain⟨dx,xs,ha,rf⟩:=hr.ins_
    refine⟨_,s1,a,C',dx,xs,rfl,ha,c,na,by rw [rf.length]; exact hl,?_⟩
    have hne:∀ys,H1 a≠some (.tup ys):=λys z=>by rw [ha] at z; cases z
    have kp:Keep F1 H1 F1 (upd H1 a (.ins C' dx (putF n v xs))):=⟨λ_ h=>h,λb u f q=>by rw [aj0 (λ(z:b=a)=>nf (z▸f))]; exact q,λb ys q=>by rw [aj0 (λ(z:b=a)=>hne ys (z▸q))]; exact q⟩
    obtain⟨r2,k2⟩:=(r.mono m1).write (o:=.ins C' dx (putF n v xs)) (t':=.ins C' (kN0 n t fs)) e1 s1 hne (.ins ag0 ((rf.put rv).keep kp)) (λ_=>rfl)
    exact k F1 σ _ (m1.keep.trans k2) r2
  ·cases hg
 ·cases hg
end
def spI (C:Addr)(gs:List T->Option (List (Str × T))):Sp:=λvs H Q _=>∃(F:Addr->Prop) (x dx:Addr) (us:List V) (ts:List T) (fts:List (Str × T)),vs=.ref x::us/\H x=some (.ins C dx [])/\¬F x/\Trk F H/\Rps F H us ts/\gs ts=some fts/\
 ∀F' H',(∀b o,b≠x->H b=some o->H' b=some o)->(∀a,F a->F' a)->(∀a,F' a->F a\/ H a=none\/ a=x)->¬F' x->Trk F' H'->Rp1 F' H' x (.ins C fts)->Q .non H'
def id0 (C:Addr)(N:List Str)(ts:List T):En:=.ow (.ins C [])::db0 N.tail ts
def retI (C:Addr):Fl->Option (List (Str × T))
 | .nx (.ow (.ins C' fs)::_)=>if C'=C then some fs else none
 |_=>none
theorem oa0 {F:Addr->Prop}{H:Hp}(tk:Trk F H)(hx:H x=some (.ins C dx []))(nf:¬F x)(r:Rps F H us ts):
  Rel ⟨λb=>if b=x then none else H b,F,λa=>a=x,λ_ _=>False⟩ F (id0 C (n::N) ts) (start (n::N) (.ref x::us)) H:=by
 have R:=fp0 (N:=N) tk r
 have es:start (n::N) (.ref x::us)=some (.ref x)::start N us:=by
  unfold start
  simp only [Ac2,Ac4,An3,Nat.add_sub_add_right]
 rw [es]
 have noO:∀(i:Nat) t,(db0 N ts)[i]?≠some (.ow t):=λi t e=>by
  unfold db0 at e
  by_cases hi:i<ts.length
  ·rw [Ab3 (by simpa using hi),Ab0] at e
   cases q:ts[i]? with
   |none=>rw [q] at e; cases e
   |some t'=>rw [q] at e; cases e
  ·rw [Ab9 (by simpa using hi),Af5] at e
   split at e<;>cases e
 refine⟨?_,λi t e=> ?_,λi t e=> ?_,λi j t u a ne e1 e2 s1 s2=> ?_,λb o h=> ?_,λ_ h=>h,λ_ h=> .inl h,tk,λi t a e hi s1=> ?_,λi v t e=> ?_⟩
 ·show (db0 N ts).length+1=_
  rw [Ac4,R.len]
 ·cases i with
  |zero=>cases e
  |succ i=>exact R.sh i t e
 ·cases i with
  |zero=>cases e; exact⟨x,rfl,nf,if_pos rfl,.ins hx .nil⟩
  |succ i=>exact absurd e (noO i t)
 ·cases i with
  |zero=>
   cases j with
   |zero=>exact ne rfl
   |succ j=>exact noO j u e2
  |succ i=>exact noO i t e1
 ·have h:(if b=x then none else H b)=some o:=h
  by_cases z:b=x
  ·rw [if_pos z] at h; cases h
  ·rw [if_neg z] at h; exact h
 ·cases i with
  |zero=>cases s1; rfl
  |succ i=>exact absurd e (noO i t)
 ·cases i with
  |zero=>cases e
  |succ i=>exact R.fx i v t e
section
variable {P:Program}{w:World}{K:Aa3}{mg:Str->Option Value}{base:Heap}
theorem qw0 {x qual n:Str}{st:Stmt}{f C:Addr}{fd:FuncData}{N ps:List Str}{k:Nat}{gs:List T->Option (List (Str × T))}(Fn:Fun K x qual st f fd)(S:FnScope (n::N) ps (ad0 st))
  (hlen:∀ts r,gs ts=some r->ts.length+1=ps.length)
  (hbody:∀(cdv:Value) (A:Around) (outer:List Env) (s:Shared) (H:Hp) (E:XK) (Y:Fx),Room k (A.deeper (envOfC qual (ad0 st) s.heap.objs.size f cdv))->
   ∃g,SSs ((cxOf CX0 P w K mg base (n::N) qual (ad0 st) f cdv A outer s H E).nox) Y (br0 st) g/\∀ts r,gs ts=some r->(g (id0 C (n::N) ts)).bind (retI C)=some r):FnOk P w K mg base CX0 (k+1) f fd ps (spI C gs):=by
 refine Fn.ok S (λvs H Q E h=> ?_) λcdv A outer s H vs Q E hr h=> ?_
 ·obtain⟨F,x,dx,us,ts,fts,rfl,_,_,_,r,e,_⟩:=h
  rw [Ac4,r.length]
  exact hlen ts _ e
 ·obtain⟨F,x,dx,us,ts,fts,rfl,hx,nf,tk,r,e,q⟩:=h
  obtain⟨g,hg,hv⟩:=hbody cdv A outer s H E ⟨λb=>if b=x then none else H b,F,λa=>a=x,λ_ _=>False⟩ hr
  refine⟨_,hg,?_⟩
  have hv:=hv ts fts e
  cases qg:g (id0 C (n::N) ts) with
  |none=>rw [qg] at hv; cases hv
  |some fl=>
   rw [qg] at hv
   have hv:retI C fl=some fts:=hv
   refine⟨F,id0 C (n::N) ts,fl,oa0 tk hx nf r,qg,?_⟩
   unfold retI at hv
   split at hv
   ·split at hv
    ·rename_i C' fs ε hc
     cases hv
     subst hc
     intro F' σ' H' _ rl
     obtain⟨a,s1,nf1,h0,hr⟩:=rl.ow 0 _ rfl
     obtain rfl:a=x:=rl.me 0 _ a rfl rfl s1
     refine q F' H' (λb o nb hb=>rl.same b o (by show (if b=a then none else H b)=some o; rw [if_neg nb]; exact hb)) rl.sub (λb hb=> ?_) nf1 rl.trk hr
     rcases rl.new b hb with z|z
     ·exact .inl z
     ·have z:(if b=a then none else H b)=none:=z
      by_cases nb:b=a
      ·exact .inr (.inr nb)
      ·rw [if_neg nb] at z; exact .inr (.inl z)
    ·cases hv
   ·cases hv
end
section
variable {X:Cx}{Y:Fx}{k:Nat}{f C:Addr}{fd:FuncData}{ps:List Str}{x:Str}{p pos:Pos}{e:Expr}{es:List Expr}{gs:List T->Option (List (Str × T))}{fa:En->Option (List T)}
def lr0 (C:Addr)(gs:List T->Option (List (Str × T)))(g:En->Option (List T)):En->Option T:=λε=>(g ε).bind λts=>(gs ts).map λfs=> .ins C fs
theorem pl0 (M:Mk X.K C f)(Fn:FnOk X.prog X.w X.K X.mg X.base CX0 k f fd ps (spI C gs))(hr:Room (k+1) X.A)(hg:Gl X x)(hm:X.mg x=some (.ref C))(hb:Binds X.K fd ps [])(ha:SA X Y (e::es) fa)
  (hdb:(x==("__debug__" :Str))=false:=by decide) (he:starEach (e::es) X.env=(false,eval e X.env)::starEach es X.env:=by rfl) (hpl:(backTo pos (starEach es X.env)).any (·.1)=false:=by rfl):
  FE X Y (.Call (.Name x p) (e::es) [] pos) (lr0 C gs fa):=PE.imp (fd0 M Fn hr hg hm hb .nil bf0 ha hdb he hpl) λσ H Q ⟨F,ε,u,rl,hf,k⟩=>by
 unfold lr0 at hf
 cases q:fa ε with
 |none=>rw [q] at hf; cases hf
 |some ts=>
  rw [q] at hf
  simp only [Aa2] at hf
  cases q2:gs ts with
  |none=>rw [q2] at hf; cases hf
  |some fs=>
   rw [q2] at hf
   cases hf
   refine⟨F,ε,ts,rl,q,λF1 vs H1 m1 r1 y dy hy hdy ne=> ?_⟩
   have ext:∀b o,H1 b=some o->upd (upd H1 dy (.own y)) y (.ins C dy []) b=some o:=λb o h=>by rw [aj0 (ah0 h hy),aj0 (ah0 h hdy)]; exact h
   have tk2:Trk F1 (upd (upd H1 dy (.own y)) y (.ins C dy [])):=λb fb=>let ⟨o,h⟩:=m1.trk b fb; ⟨o,ext b o h⟩
   have kp:Keep F1 H1 F1 (upd (upd H1 dy (.own y)) y (.ins C dy [])):=⟨λ_ h=>h,λb o _ h=>ext b o h,λb xs h=>ext b _ h⟩
   refine⟨F1,y,dy,vs,ts,fs,by rw [Ag7],ag0,Trk.new m1.trk hy,tk2,r1.keep kp,q2,λF2 H2 s2 sb nw nf tk hr=>⟨rfl,?_⟩⟩
   have m2:Mono F1 H1 F2 H2:=⟨λb o h=>s2 b o (ah0 h hy) (ext b o h),sb,λb fb=> ?_,tk⟩
   ·exact k F2 y H2 (m1.trans m2) (m1.free hy) nf hr
   ·rcases nw b fb with z|z|z
    ·exact .inl z
    ·refine .inr ?_
     cases w:H1 b with
     |none=>rfl
     |some o=>rw [ext b o w] at z; cases z
    ·exact absurd fb (z▸nf)
end
section
variable (P:Program)(w:World)(K:Aa3)(mg:Str->Option Value)(base:Heap)
def bj0 (k:Nat)(x:Str)(ps:List Str)(gs:List T->Option (Bool × T)):Prop:=∃f fd,FnOk P w K mg base CX0 k f fd ps (spP gs)/\mg x=some (.ref f)/\PySem.W.keepIn K (.ref f)=true/\Binds K fd ps []
def ex0 (C:Addr)(k:Nat)(x:Str)(ps:List Str)(gs:List T->Option (Bool × T)):Prop:=∃f fd,FnOk P w K mg base CX0 k f fd ps (spP gs)/\Meth K C x f/\Binds K fd ps []
def qE0 (C:Addr)(k:Nat)(x:Str)(ps:List Str)(gs:List T->Option (List (Str × T))):Prop:=∃f fd,FnOk P w K mg base CX0 k f fd ps (spI C gs)/\Mk K C f/\mg x=some (.ref C)/\Binds K fd ps []
end
theorem cc0 {X:Cx}(N:List Str)(sc:Scope)(h1:X.N=N)(h2:X.env.scope=sc)(h:er0 scope own N sc=true):er0 scope own X.N X.env.scope=true:=by rw [h1,h2]; exact h
theorem bM0 {X:Cx}(N:List Str)(h1:X.N=N)(h:N.Nodup):X.N.Nodup:=by rw [h1]; exact h
theorem hu20 (hr:Room k A):A.units+20<cLine:=Ao1 (Ar5 (by decide:20<=64) _) hr.units
def fnT (N:List Str)(n:Nat)(g:En->Option Fl):List T->Option (Bool × T):=λts=>if ts.length=n then(g (db0 N ts)).bind dj0 else none
def fnI (C:Addr)(N:List Str)(n:Nat)(g:En->Option Fl):List T->Option (List (Str × T)):=λts=>if ts.length+1=n then(g (id0 C N ts)).bind (retI C) else none
theorem aA0 {g:En->Option Fl}(h:fnT N n g ts=some (o,t)):(g (db0 N ts)).bind dj0=some (o,t):=by
 unfold fnT at h
 split at h
 ·exact h
 ·cases h
theorem aJ0 {g:En->Option Fl}(h:fnT N n g ts=some r):ts.length=n:=by
 unfold fnT at h
 split at h
 ·assumption
 ·cases h
theorem nt0 {g:En->Option Fl}(h:fnI C N n g ts=some t):(g (id0 C N ts)).bind (retI C)=some t:=by
 unfold fnI at h
 split at h
 ·exact h
 ·cases h
theorem pq0 {g:En->Option Fl}(h:fnI C N n g ts=some r):ts.length+1=n:=by
 unfold fnI at h
 split at h
 ·assumption
 ·cases h
section
variable {X:Cx}{Y:Fx}{k:Nat}{C:Addr}{ps:List Str}{x m:Str}{p pos apos:Pos}{e o:Expr}{es:List Expr}{gs:List T->Option (Bool × T)}{fa:En->Option (List T)}{fo:En->Option T}
theorem ct0 (hg:Gl X x)(hm:∃t,X.mg x=some (.int i t))(hd:(x==("__debug__" :Str))=false:=by decide):SE X Y (.Name x pos) (eC (.int i)):=by
 obtain⟨t,hm⟩:=hm
 exact qY0 (v:=.int i) hg hm ⟨t,rfl⟩ (λ_ _=> .int i) hd
theorem aH0 (D:bj0 X.prog X.w X.K X.mg X.base k x ps gs)(hr:Room k X.A)(hg:Gl X x)(ha:SA X Y (e::es) fa)
  (hdb:(x==("__debug__" :Str))=false:=by decide) (he:starEach (e::es) X.env=(false,eval e X.env)::starEach es X.env:=by rfl) (hpl:(backTo pos (starEach es X.env)).any (·.1)=false:=by rfl):
  SE X Y (.Call (.Name x p) (e::es) [] pos) (eFn gs fa):=by
 obtain⟨f,fd,F,h1,h2,h3⟩:=D
 exact se_fn F hr hg h1 h2 h3 ha hdb he hpl
theorem eP0 (D:bj0 X.prog X.w X.K X.mg X.base k x ps gs)(hr:Room k X.A)(hg:Gl X x)(ha:SA X Y (e::es) fa)
  (hdb:(x==("__debug__" :Str))=false:=by decide) (he:starEach (e::es) X.env=(false,eval e X.env)::starEach es X.env:=by rfl) (hpl:(backTo pos (starEach es X.env)).any (·.1)=false:=by rfl):
  FE X Y (.Call (.Name x p) (e::es) [] pos) (eFnF gs fa):=by
 obtain⟨f,fd,F,h1,h2,h3⟩:=D
 exact fe_fn F hr hg h1 h2 h3 ha hdb he hpl
theorem fe_mk {gs:List T->Option (List (Str × T))}(D:qE0 X.prog X.w X.K X.mg X.base C k x ps gs)(hr:Room (k+1) X.A)(hg:Gl X x)(ha:SA X Y (e::es) fa)
  (hdb:(x==("__debug__" :Str))=false:=by decide) (he:starEach (e::es) X.env=(false,eval e X.env)::starEach es X.env:=by rfl) (hpl:(backTo pos (starEach es X.env)).any (·.1)=false:=by rfl):
  FE X Y (.Call (.Name x p) (e::es) [] pos) (lr0 C gs fa):=by
 obtain⟨f,fd,F,h1,h2,h3⟩:=D
 exact pl0 h1 F hr hg h2 h3 ha hdb he hpl
def fV0 (C:Addr)(m:Str)(gs:List T->Option (Bool × T))(fo:En->Option T)(g:En->Option (List T)):En->Option T:=λε=>match fo ε with
 |some (.ins C' fs)=>if C'=C/\fs.lookup m=none then(g ε).bind λts=>match gs (.ins C' fs::ts) with|some (true,t)=>some t|_=>none else none
 |_=>none
theorem ny0 (σ:St)(H:Hp)(Q:VK)(h:TrF Y (fV0 C m gs fo fa) σ H Q):om0 C m (spP gs) [] E0 (Tr Y fo) (TrA Y fa) σ H Q:=by
 obtain⟨F,ε,u,rl,hf,k⟩:=h
 unfold fV0 at hf
 split at hf
 ·rename_i C' fs qo
  split at hf
  ·rename_i hc
   obtain⟨rfl,hl⟩:=hc
   refine⟨F,ε,_,rl,qo,λF1 v H1 m1 r1=> ?_⟩
   cases hr:r1 with
   | @ins a _ dx fv _ fa' ha rf=>
    refine⟨a,dx,fv,rfl,ha,rf.look_none hl,?_⟩
    cases q:fa ε with
    |none=>rw [q] at hf; cases hf
    |some ts=>
     rw [q] at hf
     simp only [Aa2] at hf
     split at hf
     ·rename_i t q2
      cases hf
      refine⟨F1,ε,ts,rl.mono m1,q,λF2 vs H2 m2 r2=>⟨F2,.ins C' fs::ts,true,u,m2.trk,by rw [Ag7]; exact .cons (r1.keep m2.keep) r2,q2,λF3 v H3 m3 r3=> ?_⟩⟩
      obtain⟨b,rfl,n,nf,z⟩:=(show∃b,v=.ref b/\H2 b=none/\¬F3 b/\Rp1 F3 H3 b u from r3)
      exact k F3 b H3 ((m1.trans m2).trans m3) ((m1.trans m2).free n) nf z
     ·cases hf
  ·cases hf
 ·cases hf
theorem pr0 (ho:SE X Y o fo)(c:Cls X.K C)(D:ex0 X.prog X.w X.K X.mg X.base C k m ps gs)(hr:Room k X.A)(ha:SA X Y (e::es) fa)
  (hst:starEach (e::es) X.env=(false,eval e X.env)::starEach es X.env:=by rfl) (hpl:(backTo pos (starEach es X.env)).any (·.1)=false:=by rfl)
  (ht:eval (.Call (.Attribute o m apos) (e::es) [] pos) X.env=(do
   let ov<- eval o X.env
   standAt apos.atName
   let (f,first)<- holding [ov] (getMethod ov m pl)
   callWith pos f first (backTo pos (starEach (e::es) X.env)) (backToKw pos (keywordEach [] X.env))):=by rfl):
  SE X Y (.Call (.Attribute o m apos) (e::es) [] pos) (dX0 C m gs fo fa):=by
 obtain⟨f,fd,F,h1,h2⟩:=D
 exact pP0 ho c h1 F hr h2 ha hst hpl ht
theorem fe_me (ho:SE X Y o fo)(c:Cls X.K C)(D:ex0 X.prog X.w X.K X.mg X.base C k m ps gs)(hr:Room k X.A)(ha:SA X Y (e::es) fa)
  (hst:starEach (e::es) X.env=(false,eval e X.env)::starEach es X.env:=by rfl) (hpl:(backTo pos (starEach es X.env)).any (·.1)=false:=by rfl)
  (ht:eval (.Call (.Attribute o m apos) (e::es) [] pos) X.env=(do
   let ov<- eval o X.env
   standAt apos.atName
   let (f,first)<- holding [ov] (getMethod ov m pl)
   callWith pos f first (backTo pos (starEach (e::es) X.env)) (backToKw pos (keywordEach [] X.env))):=by rfl):
  FE X Y (.Call (.Attribute o m apos) (e::es) [] pos) (fV0 C m gs fo fa):=by
 obtain⟨f,fd,F,h1,h2⟩:=D
 exact PE.imp (bH0 ho c h1 F hr h2 .nil bf0 ha hst hpl ht) ny0
end
open PySem PySem.Spec
theorem iT0 {bd:T->En->Option En}{p:En->Option Bool}{f:En->Option T}{P:T->Bool}{G:T->T}:∀(ts:List T),
  (∀t,t∈ts->∃ε1,bd t (List.replicate n .un++ε)=some ε1/\p ε1=some (P t)/\(P t=true->f ε1=some (G t)))->ey0 n ε bd p f ts=some ((ts.filter P).map G)
 | [],_=>rfl
 |t::ts,h=>by
  obtain⟨ε1,h1,h2,h3⟩:=h t (Af8 ..)
  have ih:=iT0 ts λu hu=>h u (Ae6 _ hu)
  unfold ey0
  rw [h1,Aa2,h2,Aa2,ih]
  cases q:P t with
  |true=>rw [if_pos rfl,h3 q,Aa2,Aa2,List.filter_cons_of_pos q]; rfl
  |false=>rw [if_neg Ab4,List.filter_cons_of_neg (by simp [q])]
theorem dS0 {it:En->Option (List T)}{bd:T->En->Option En}{p:En->Option Bool}{f:En->Option T}{P:T->Bool}{G:T->T}(hi:it ε=some ts)(hl:ts.length<=big)
  (h:∀t,t∈ts->∃ε1,bd t (List.replicate n .un++ε)=some ε1/\p ε1=some (P t)/\(P t=true->f ε1=some (G t))):ba0 n it bd p f ε=some (.lst ((ts.filter P).map G)):=by
 unfold ba0
 rw [hi,Aa2,if_pos hl,iT0 ts h]
 rfl
theorem bi0 {it:En->Option (List T)}{bd:T->En->Option En}{f:En->Option T}{G:T->T}(hi:it ε=some ts)(hl:ts.length<=big)
  (h:∀t,t∈ts->∃ε1,bd t (List.replicate n .un++ε)=some ε1/\f ε1=some (G t)):ba0 n it bd bu0 f ε=some (.lst (ts.map G)):=by
 have:=dS0 (p:=bu0) (P:=λ_=>true) (f:=f) (G:=G) hi hl λt ht=>let ⟨ε1,h1,h2⟩:=h t ht; ⟨ε1,h1,rfl,λ_=>h2⟩
 rw [this,List.filter_eq_self.mpr (λ_ _=>rfl)]
theorem bt0 {bd:T->En->Option En}{body:En->Option Fl}(I:Nat->En->Prop):∀(ts:List T) (k:Nat) (ε:En),I k ε->
  (∀(i:Nat) t ε,ts[i]?=some t->I (k+i) ε->∃ε1 ε2,bd t ε=some ε1/\(body ε1=some (.nx ε2)\/ body ε1=some (.ct ε2))/\I (k+i+1) ε2)->∃ε',cz0 bd body ts ε=some (.nx ε')/\I (k+ts.length) ε'
 | [],k,ε,h0,_=>⟨ε,rfl,h0⟩
 |t::ts,k,ε,h0,h=>by
  obtain⟨ε1,ε2,h1,h2,h3⟩:=h 0 t ε rfl h0
  obtain⟨ε',h4,h5⟩:=bt0 I ts (k+1) ε2 h3 λi u η hu hi=>by
   have e:k+1+i=k+(i+1):=by omega
   rw [e] at hi ⊢
   exact h (i+1) u η hu hi
  refine⟨ε',?_,by rw [Ac4,show k+(ts.length+1)=k+1+ts.length by omega]; exact h5⟩
  unfold cz0
  rw [h1]
  rcases h2 with h2|h2
  ·simp only [Aa2,h2]; exact h4
  ·simp only [Aa2,h2]; exact h4
theorem eG0 {bd:T->En->Option En}{body:En->Option Fl}(I:En->Prop)(P:T->Bool):∀(ts:List T) (ε:En),I ε->
  (∀t ε,t∈ts->I ε->∃ε1,bd t ε=some ε1/\(P t=true->body ε1=some (.rt o r))/\(P t=false->∃ε2,body ε1=some (.nx ε2)/\I ε2))->
  (ts.any P=true->cz0 bd body ts ε=some (.rt o r))/\(ts.any P=false->∃ε',cz0 bd body ts ε=some (.nx ε')/\I ε')
 | [],ε,h0,_=>⟨(λh=>nomatch h),λ_=>⟨ε,rfl,h0⟩⟩
 |t::ts,ε,h0,h=>by
  obtain⟨ε1,h1,h2,h3⟩:=h t ε (Af8 ..) h0
  cases q:P t with
  |true=>
   refine⟨λ_=> ?_,λz=>by rw [Ai0,q] at z; cases z⟩
   unfold cz0
   rw [h1]
   simp only [Aa2,h2 q]
  |false=>
   obtain⟨ε2,h4,h5⟩:=h3 q
   obtain⟨a,b⟩:=eG0 I P ts ε2 h5 λu η hu=>h u η (Ae6 _ hu)
   rw [Ai0,q,Aw0]
   refine⟨λz=> ?_,λz=> ?_⟩
   ·have:=a z
    unfold cz0
    rw [h1]
    simp only [Aa2,h4,this]
   ·obtain⟨ε',c,d⟩:=b z
    refine⟨ε',?_,d⟩
    unfold cz0
    rw [h1]
    simp only [Aa2,h4,c]
end L2.BD
namespace L2
section
variable {X:Cx}
end
section
variable {P:Program}{w:World}{A:Around}{E:Value->Shared->Prop}{s:Shared}{a b:Addr}{xs ys:List (SK × Addr × Value)}
end
def Itq (a:Addr)(ob:Obj)(kvs:List (SK × V)):It:=
 ⟨λi H=>H a=some (.frz ob (.dT kvs))/\i<kvs.length,λi H x H'=>H'=H/\∃k v b,kvs[i]?=some (k,v)/\x=.ref b/\KeyAt H b k,λi H=>H a=some (.frz ob (.dT kvs))/\kvs.length<=i⟩
theorem KT.at:∀{kvs:List (SK × V)} {xs:List (SK × Addr × Value)} {i:Nat} {k:SK} {v:V},KT H kvs xs->kvs[i]?=some (k,v)->∃b u,xs[i]?=some (k,b,u)/\KeyAt H b k/\RelV v u
 |_,_,_,_,_,.nil,e=>by simp at e
 |_,_,0,k,v,.cons (b:=b) h _,e=>by
  simp at e
  subst e
  obtain⟨b1,b2,b3⟩:=b
  obtain⟨rfl,h2,h3⟩:=h
  exact⟨b2,b3,rfl,h2,h3⟩
 |_,_,i+1,k,v,.cons _ t,e=>by
  obtain⟨b,u,h1,h2⟩:=KT.at (i:=i) (k:=k) (v:=v) t (by simpa using e)
  exact⟨b,u,by simpa using h1,h2⟩
section
variable {P:Program}{w:World}{A:Around}{E:Value->Shared->Prop}{s:Shared}
theorem nG0 {Q:Option Value->Shared->Prop}(hit:s.heap.IsKeyIter it d i n ep)(hod:s.heap.get? d=some od)(hdd:od.data=.dict es ep)(hsz:es.size=n)(he:es[i]?=some e)
  (hQ:∀h',h'.IsKeyIter it d (i+1) n ep->Heap.SameBut it s.heap h'->Q (some e.key) {s with heap:=h'}):wpAny (model P w) A (pyNext (.ref it)) Q E s:=by
 obtain⟨o,ho,hc,hd⟩:=id hit
 unfold pyNext
 refine Aa0 (As7 (Ag1 (name:=Str.ofString "__next__") hit.typeIs F.slot_dict_keyiterator_next (Ah6 F.slot_dict_keyiterator_next hit.typeIs F.entry_dict_keyiterator_next ?_ (F.args_dict_keyiterator_next_1 _))))
 refine Aa0 (Aa8 (Aa0 (Aa0 ?_)))
 first|refine Aa0 (Ak4 hit.typeIs (Aa8 ?_))|refine Aa0 (Am2 hit.typeIs (Aa8 ?_))
 refine Aa0 (wpAny_fieldsOf ho hd ?_)
 simp only [show Builtin.Dict_items.ownsTuple "dict_keyiterator" =false by decide,Ad6,Ah2]
 show wpAny _ _ (if(Value.ref d==Value.none)=true then _ else _) _ _ _
 rw [if_neg (show¬((Value.ref d==Value.none)=true) from Ab4)]
 refine Aa0 (Aa8 (Aa0 (Ap0 hod hdd ?_)))
 rw [if_neg (by rw [hsz]; simp)]
 refine Aa0 (Aa8 (Aa0 (Au8 hod hdd ?_)))
 rw [if_neg (by simp)]
 refine Aa8 ?_
 simp only [show¬((i:Int)<0) from by omega,Ah2,Ac9,he]
 refine Aa0 ?_
 first|refine Aa0 (Ak4 hit.typeIs (Aa8 ?_))|refine Aa0 (Am2 hit.typeIs (Aa8 ?_))
 refine Aa0 (wpAny_isOneOf_keyiter hit.typeIs ?_)
 show wpAny _ _ (setField (.ref it) 1 (rawInt ((i:Int)+1))>>=_) _ _ _
 refine Aa0 (Ar9 ho hd (by simp) ?_)
 have nx:(s.heap.update it (Obj.mapFields (·.setIfInBounds 1 (rawInt ((i:Int)+1))))).IsKeyIter it d (i+1) n ep:=
  ⟨_,An0 _ ho (Obj.isFreed_of_fields (Obj.data_mapFields hd _)),(Obj.cls_mapFields ..).trans hc,by rw [Obj.data_mapFields hd]; simp [rawInt]⟩
 refine Aa0 (Al3 ?_)
 refine Aa0 (wpAny_isOneOf_keyiter (s:={s with heap:=s.heap.update it (Obj.mapFields (·.setIfInBounds 1 (rawInt ((i:Int)+1))))}) nx.typeIs ?_)
 show wpAny _ _ (pure e.key) _ _ _
 exact Aa8 (Aa8 ⟨_,rfl,Aa8 (hQ _ nx (Heap.SameBut.update ..))⟩)
theorem oD0 {Q:Option Value->Shared->Prop}(hh:A.handled=none)(hit:s.heap.IsKeyIter it d i n ep)(hod:s.heap.get? d=some od)(hdd:od.data=.dict es ep)(hsz:es.size=n)(he:n<=i)
  (hQ:∀h',Heap.ExtBut it s.heap h'->Q none {s with heap:=h'}):wpAny (model P w) A (pyNext (.ref it)) Q E s:=by
 obtain⟨o,ho,hc,hd⟩:=id hit
 unfold pyNext
 refine Aa0 (As7 (Ag1 (name:=Str.ofString "__next__") hit.typeIs F.slot_dict_keyiterator_next (Ah6 F.slot_dict_keyiterator_next hit.typeIs F.entry_dict_keyiterator_next ?_ (F.args_dict_keyiterator_next_1 _))))
 refine Aa0 (Aa8 (Aa0 (Aa0 ?_)))
 first|refine Aa0 (Ak4 hit.typeIs (Aa8 ?_))|refine Aa0 (Am2 hit.typeIs (Aa8 ?_))
 refine Aa0 (wpAny_fieldsOf ho hd ?_)
 simp only [show Builtin.Dict_items.ownsTuple "dict_keyiterator" =false by decide,Ad6,Ah2]
 show wpAny _ _ (if(Value.ref d==Value.none)=true then _ else _) _ _ _
 rw [if_neg (show¬((Value.ref d==Value.none)=true) from Ab4)]
 refine Aa0 (Aa8 (Aa0 (Ap0 hod hdd ?_)))
 rw [if_neg (by rw [hsz]; simp)]
 refine Aa0 (Aa8 (Aa0 (Au8 hod hdd ?_)))
 rw [if_neg (by simp)]
 refine Aa8 ?_
 simp only [show¬((i:Int)<0) from by omega,Ah2,Ac9,Array.getElem?_eq_none (show es.size<=i by omega)]
 refine Aa0 ?_
 first|refine Aa0 (Ak4 hit.typeIs (Aa8 ?_))|refine Aa0 (Am2 hit.typeIs (Aa8 ?_))
 show wpAny _ _ (setField (.ref it) 0 .none>>=_) _ _ _
 refine Aa0 (Ar9 ho hd (by simp) ?_)
 show wpAny _ _ (newExc (.type "StopIteration") []>>=_) _ _ _
 refine Aa0 ?_
 simp only [newExc,newTuple]
 refine Aa0 (Ah1 ?_ (by size_fits))
 refine Aa0 (m:=firstArgMember _ _) (wpAny_of_eq (a:=Value.none) (by first|rfl|(simp only [firstArgMember]; rfl)) ?_)
 refine Ah1 ?_ (by size_fits)
 simp only [raiseNew]
 refine Aa0 (wpAny_handled ?_)
 rw [show A.in1.handled=none from hh]
 refine Aa0 (Aa8 (wpAny_throw ?_))
 refine Aa0 (Au1 (T:= "StopIteration") (b:=true) ⟨_,Ab7 _ rfl,rfl⟩ isSubtype_stop ?_)
 exact Aa8 (hQ _ (((Heap.SameBut.update ..).extBut.push _).push _))
end
theorem eo0 {H:Hp}(I:Inv X pins σ H s)(h:H a=some (.frz ob (.dT kvs)))(hd:ob.data=.dict es ep):
  s.heap.get? a=some ob/\∃xs,KT H kvs xs/\es.toList=xs.map (entryOfKey (eq0 X.prog X.w)):=by
 obtain⟨h1,_,h2,xs,r,o,es',ep',h3,h4,h5,h6,_⟩:=(show ObjOk X.prog X.w H s.heap a (.frz ob (.dT kvs)) from I.hok a _ h)
 rw [h1] at h3
 cases h3
 rw [hd] at h5
 cases h5
 exact⟨h1,xs,r,h6⟩
theorem ia0 {P:Program}{w:World}{K:Aa3}{tg:Expr}(a it:Addr){ob:Obj}{kvs:List (SK × V)}{es:Array DictEntry}{ep:Nat}(hd:ob.data=.dict es ep):
  Turn P w K tg (Itq a ob kvs) [it] it (λi h=>h.IsKeyIter it a i kvs.length ep) where
 mem:=by simp
 obj:=λi h st b hb=>by
  have e:b=it:=by simpa using hb
  subst e
  obtain⟨o,e,c,d⟩:=st
  exact⟨o,e,λv z=>by rw [d] at z; cases z⟩
 keep:=λi h h' st k=>by
  obtain⟨o,e,c⟩:=st
  exact⟨o,k it (by simp) o e,c⟩
 item:=by
  intro X hP hw hK hc i pins s σ H E I hf st hg
  subst hP hw hK
  obtain⟨hH,hi⟩:=hg
  obtain⟨g1,xs,rv,ge⟩:=eo0 I hH hd
  obtain⟨k,v,hkv⟩:∃k v,kvs[i]?=some (k,v):=⟨_,_,by rw [Aa4 hi]⟩
  obtain⟨b,u,hu,hk,_⟩:=rv.at hkv
  have hlen:kvs.length=xs.length:=Paired.length rv
  obtain⟨f0,f1,f2,f3,f4,f5⟩:=hf it (by simp)
  refine nG0 st g1 hd (by rw [Au9 ge,hlen]) (e:=entryOfKey (eq0 X.prog X.w) (k,b,u)) (by rw [entry_at ge i,hu]; rfl) λh' st' sb=> ?_
  have I1:Inv X pins σ H {s with heap:=h'}:=I.turned (t':=s.toks) (λb o hb e=>(sb.2 b hb).trans e) f0 f1 f3 f4 f5
  obtain⟨o,e,c,d⟩:=id st'
  exact⟨_,rfl,mE0 (s:={s with heap:=h'}) e c d (by decide) ⟨.ref b,H,I1,rfl,⟨rfl,k,v,b,hkv,rfl,hk⟩,st',λb hb=>(hf b hb).1⟩⟩
 done:=by
  intro X hP hw hK hc i pins s σ H E I hf st hg
  subst hP hw hK
  obtain⟨hH,hi⟩:=hg
  obtain⟨g1,xs,rv,ge⟩:=eo0 I hH hd
  have hlen:kvs.length=xs.length:=Paired.length rv
  obtain⟨f0,f1,f2,f3,f4,f5⟩:=hf it (by simp)
  exact oD0 (I.ok.hd hc) st g1 hd (by rw [Au9 ge,hlen]) hi λh' eb=>⟨rfl,I.turned (t':=s.toks) (λb o hb e=>eb b o hb e) f0 f1 f3 f4 f5⟩
 self:=λA i s Q E st h=>by
  obtain⟨o,ho,hc,hd⟩:=id st
  exact wpAny_pyIter_keyiter st h
section
variable {X:Cx}{tg:Expr}
def pA0 (tl:TE):TI:=λσ H R=>tl σ H λx H1=>∃a ob kvs,x=.ref a/\H1 a=some (.frz ob (.dT kvs))/\R (Itq a ob kvs) H1
theorem hv0 {l:Expr}{tl:TE}(hl:PE X l tl):PI X tg l (pA0 tl):=by
 intro pins s σ H R I h
 refine thn (hl pins s σ H _ I h) λv s1 ⟨x,H1,I1,r1,a,ob,kvs,e,ha,q⟩=> ?_
 subst e
 cases r1
 obtain⟨h1,_,h2,xs,rv,o,es,ep,h3,h4,h5,h6,_⟩:=(show ObjOk X.prog X.w H1 s1.heap a (.frz ob (.dT kvs)) from I1.hok a _ ha)
 rw [h1] at h3
 cases h3
 have hT:s1.TypeIs (.ref a) "dict" :=⟨ob,h1,h4.1⟩
 have hsz:es.size=kvs.length:=by rw [Au9 h6]; exact(Paired.length rv).symm
 refine wpAny_pyIter_slot hT F.slot_dict_iter (Ah6 F.slot_dict_iter hT F.entry_dict_iter ?_ (F.args_dict_iter_1 _))
 unfold Builtin.«dict.__iter__» Builtin.Dict.dictSlotNone
 refine Aa0 (Aa0 (wpAny_notOrdered_dict hT (Aa8 (a:=Value.ref a) ?_)))
 show wpAny _ _ (Builtin.Dict.showsAll a>>=_) _ _ _
 unfold Builtin.Dict.showsAll
 rw [if_neg (by rw [h2]; exact Ab4)]
 refine Aa0 (Aa8 (Aa0 (Ap0 h1 h5 (Aa0 (Au8 h1 h5 ?_)))))
 refine Aa0 (Ah1 (Aa8 ⟨_,rfl, "dict_keyiterator",_,⟨_,Ab7 _ rfl,rfl⟩,F.slot_dict_keyiterator_next.lookup,?_⟩))
 refine⟨s1.heap.objs.size,[s1.heap.objs.size],_,_,H1,rfl,I1.kept (t':=s1.toks) λb o e=>Aa7 _ e,ia0 a _ h5,⟨_,Ab7 _ rfl,rfl,by rw [<- hsz]; rfl⟩,λb hb=> ?_,q⟩
 have e:b=s1.heap.objs.size:=by simpa using hb
 subst e
 exact I1.fpOk (Ab1 _) (I1.hok.fresh (Ab1 _))
theorem Inv.swap {H:Hp}(I:Inv X pins σ H s)(h:H a=some u)(h0:X.H₀ a=none)(nt:∀xs,u≠ .tup xs)(no:∀x,u≠ .own x)(new:ObjOk X.prog X.w H s.heap a o'):Inv X pins σ (upd H a o') s:=by
 have hm:∀b u,H b=some u->b≠a->upd H a o' b=some u:=λb u q ne=>by rw [aj0 ne]; exact q
 have nn:∀b,H b=none->upd H a o' b=none:=λb q=>by rw [aj0 (λz=>by rw [z,h] at q; cases q)]; exact q
 have b0:∀{b:Addr} {z:HO},X.H₀ b=some z->b≠a:=λe z=>by rw [z,h0] at e; cases e
 have st:∀{c:Addr} {v:HO},ObjOk X.prog X.w H s.heap c v->ObjOk X.prog X.w (upd H a o') s.heap c v:=λx=>x.stay (λ_ _ _ q=>q) (λc q=>hm c _ q λz=>by rw [z,h] at q; exact no _ (Option.some.inj q)) λc xs q=>hm c _ q λz=>by rw [z,h] at q; exact nt _ (Option.some.inj q)
 refine⟨I.ok,I.os,I.bare,⟨I.base.keep,I.base.slot,λb o e n hx=>nn b (I.base.free b o e n hx),I.base.there,λb xs e=>hm b _ (I.base.tups b xs e) (b0 e),λb o u e=>hm b _ (I.base.frzs b o u e) (b0 e),λb ps e=>let ⟨mo,q⟩:=I.base.tbls b ps e; ⟨mo,hm b _ q (b0 e)⟩⟩,I.loc,I.cell,nn _ I.free,λx c e=>nn c (I.freeC x c e),λp hp=>let ⟨h1,h2,h3⟩:=I.pin p hp; ⟨h1,nn _ h2,h3⟩,λb u e=> ?_,I.len⟩
 by_cases hba:b=a
 ·subst hba
  rw [ag0] at e
  cases e
  exact st new
 ·rw [aj0 hba] at e
  exact st (I.hok b u e)
theorem Inv.sealT {H:Hp}(I:Inv X pins σ H s)(h:H a=some (.dT kvs))(h0:X.H₀ a=none):∃o,Inv X pins σ (upd H a (.frz o (.dT kvs))) s:=by
 have ok:ObjOk X.prog X.w H s.heap a (.dT kvs):=I.hok a _ h
 obtain⟨_,_,_,_,ob,_,_,hob,_⟩:=id ok
 exact⟨ob,I.swap h h0 (λ_ z=>by cases z) (λ_ z=>by cases z) ⟨hob,ok⟩⟩
theorem os0 {st:Stmt}{t:TS}(h:PS X st t):PS X st (λD σ H=>∃a kvs,H a=some (.dT kvs)/\X.H₀ a=none/\∀o,t D σ (upd H a (.frz o (.dT kvs)))):=λpins s σ H D I ⟨a,kvs,e,e0,q⟩=>by
 obtain⟨o,I'⟩:=I.sealT e e0
 exact h pins s σ _ D I' (q o)
end
end L2
namespace L2.BD
section
variable {X:Cx}{pins:List (Addr × Obj)}{σ:St}{H:Hp}{s:Shared}{F:Addr->Prop}
end
def Y0:Fx:=⟨λ_=>none,λ_=>False,λ_=>True,λ_ _=>False⟩
def shO (ws:List (Option T)):En:=ws.map λo=>match o with|some t=> .sh t|none=> .un
theorem re0 {F:Addr->Prop}{σ:St}{ws:List (Option T)}(tk:Trk F H)(hl:σ.length=ws.length)(hs:∀(i:Nat) t,ws[i]?=some (some t)->∃v,σ[i]?=some (some v)/\Rp F H v t):Rel Y0 F (shO ws) σ H:=by
 have no:∀(i:Nat) z,(shO ws)[i]?=some z->z=.un\/ ∃t,ws[i]?=some (some t)/\z=.sh t:=λi z e=>by
  unfold shO at e
  rw [Ab0] at e
  cases q:ws[i]? with
  |none=>rw [q] at e; cases e
  |some p=>
   rw [q] at e
   cases p with
   |none=>exact .inl (Option.some.inj e).symm
   |some p=>exact .inr ⟨p,rfl,(Option.some.inj e).symm⟩
 refine⟨by unfold shO; rw [Aa1]; exact hl.symm,λi t e=> ?_,λi t e=> ?_,λi j t u a ne e1 e2 s1 s2=> ?_,(λ_ _ h=>nomatch h),λ_ h=>h.elim,λ_ _=> .inr rfl,tk,λi t a e hi s1=> ?_,λi v t e=> ?_⟩
 ·rcases no i _ e with z|⟨p,hp,z⟩
  ·cases z
  ·cases z; exact hs i _ hp
 ·rcases no i _ e with z|⟨p,_,z⟩<;>cases z
 ·rcases no i _ e1 with z|⟨p,_,z⟩<;>cases z
 ·rcases no i _ e with z|⟨p,_,z⟩<;>cases z
 ·rcases no i _ e with z|⟨p,_,z⟩<;>cases z
structure Chg (L:List Addr)(F:Addr->Prop)(H:Hp)(F':Addr->Prop)(H':Hp):Prop where
 ext:∀b o,b∉L->H b=some o->H' b=some o
 sub:∀a,F a->F' a
 new:∀a,F' a->F a\/ H a=none
 trk:Trk F' H'
 there:∀b,H b≠none->H' b≠none
def dF0 (L:List Addr)(F:Addr->Prop)(H:Hp):Prop:=∀a∈L,¬F a/\∀xs,H a≠some (.tup xs)
section
variable {L:List Addr}{F F1 F2:Addr->Prop}{H H1 H2:Hp}
theorem Chg.keep (c:Chg L F H F1 H1)(l:dF0 L F H):Keep F H F1 H1:=⟨c.sub,λa o f h=>c.ext a o (λz=>(l a z).1 f) h,λa xs h=>c.ext a _ (λz=>(l a z).2 xs h) h⟩
theorem Mono.chg (m:Mono F H F1 H1):Chg L F H F1 H1:=⟨λb o _ h=>m.ext b o h,m.sub,m.new,m.trk,λb h z=>by
 cases q:H b with
 |none=>exact h q
 |some o=>rw [m.ext b o q] at z; cases z⟩
theorem Chg.trans (a:Chg L F H F1 H1)(b:Chg L F1 H1 F2 H2):Chg L F H F2 H2:=
 ⟨λx o n h=>b.ext x o n (a.ext x o n h),λx h=>b.sub x (a.sub x h),λx h=>(b.new x h).elim (a.new x) λz=> .inr (Classical.byContradiction λq=>a.there x q z),b.trk,λx h=>b.there x (a.there x h)⟩
theorem Chg.mono (h:∀a∈L,a∈L')(c:Chg L F H F1 H1):Chg L' F H F1 H1:=⟨λb o n=>c.ext b o λz=>n (h b z),c.sub,c.new,c.trk,c.there⟩
theorem Chg.write (tk:Trk F H)(ha:a∈L)(hh:H a≠none):Chg L F H F (upd H a o):=
 ⟨λb u n h=>by rw [aj0 (λ(z:b=a)=>n (z▸ha))]; exact h,λ_ h=>h,λ_ h=> .inl h,λb h=>by
  by_cases z:b=a
  ·exact⟨o,by rw [z]; exact ag0⟩
  ·rw [aj0 z]; exact tk b h,λb h=>by
  by_cases z:b=a
  ·rw [z,ag0]; exact λq=>nomatch q
  ·rw [aj0 z]; exact h⟩
theorem Chg.free (c:Chg L F H F1 H1)(nf:¬F a)(h:H a≠none):¬F1 a:=λz=>(c.new a z).elim nf h
theorem Chg.freeze (c:Chg L F H F1 H1)(n:H a=none)(t:∃o,H1 a=some o):Chg L F H (λb=>F1 b\/ b=a) H1:=
 ⟨c.ext,λx h=> .inl (c.sub x h),λx h=>h.elim (c.new x) λe=> .inr (e▸n),λx h=>h.elim (c.trk x) λe=>e▸t,c.there⟩
end
section
variable {K:Aa3}{σ:St}{H:Hp}{Q:VK}
theorem r_fld (h:σ[i]?=some (some (.ref a)))(hH:H a=some (.ins C dx fs))(c:Cls K C)(na:NoAttr K C f)(l:fs.lookup f=some v)(q:Q v H):tFld K (tVar i) f σ H Q:=
 ⟨_,h,a,C,dx,fs,v,rfl,hH,c,na,l,q⟩
end
theorem gz0 {J:It}{F0:Addr->Prop}{H0:Hp}{ts:List T}{g:TG}{tb:TS}{D:Ends}{σ:St}(hy:fN0 J F0 H0 ts)(W:Nat->(Addr->Prop)->St->Hp->Prop)(hk:∀i F σ H,W i F σ H->Keep F0 H0 F H/\Trk F H)(h0:W 0 F0 σ H0)
  (hs:∀(i:Nat) t F σ H F' H' v,ts[i]?=some t->W i F σ H->Mono F H F' H'->Rp F' H' v t->g v σ H' λσ2 H2=>tb {D with nx:=λσ H=>∃F,W (i+1) F σ H,ct:=λσ H=>∃F,W (i+1) F σ H,bk:=D.nx} σ2 H2)
  (hd:∀F σ H,W ts.length F σ H->D.nx σ H):
  ∃W:Nat->Nat->St->Hp->Prop,(∃m,W 0 m σ H0)/\∀i m σ H,W i m σ H->
   (J.stop i H/\D.nx σ H)\/ (J.go i H/\∃N:St->Hp->Prop,(∀σ' H',N σ' H'->∃m',m'<m/\W (i+1) m' σ' H')/\∀x H',J.yld i H x H'->g x σ H' λσ2 H2=>tb {D with nx:=N,ct:=N,bk:=D.nx} σ2 H2):=by
 refine⟨λi m σ H=>i<=ts.length/\m=ts.length - i/\∃F,W i F σ H,⟨_,Ae5 _,rfl,F0,h0⟩,λi m σ H ⟨hi,hm,F,w⟩=> ?_⟩
 obtain⟨kp,tk⟩:=hk i F σ H w
 obtain⟨y1,y2⟩:=hy i F H kp tk
 by_cases e:i=ts.length
 ·subst e
  exact .inl ⟨y2 rfl,hd F σ H w⟩
 ·have hi:i<ts.length:=by omega
  obtain⟨go,yl⟩:=y1 ts[i] (Aa4 hi)
  refine .inr ⟨go,λσ H=>∃F,W (i+1) F σ H,λσ' H' ⟨F',w'⟩=>⟨ts.length - (i+1),by omega,by omega,rfl,F',w'⟩,λx H' hy=> ?_⟩
  obtain⟨F',m',rx⟩:=yl x H' hy
  exact hs i ts[i] F σ H F' H' x (Aa4 hi) w m' rx
theorem bT0 {K:Aa3}{a:Addr}{F:Addr->Prop}{H:Hp}{xs:List V}{ts:List T}(f:F a)(h:H a=some (.lst xs))(r:Rps F H xs ts):fN0 (Itl K a) F H ts:=λi F1 H1 kp tk=>by
 have h1:=kp.frz a _ f h
 have r1:=r.keep kp
 refine⟨λt e=> ?_,λe=>⟨xs,SqL.of h1,by rw [r.length]; omega⟩⟩
 obtain⟨x,hx,rx⟩:=r1.get e
 refine⟨⟨xs,x,SqL.of h1,hx⟩,λy H' ⟨e',hy⟩=> ?_⟩
 subst e'
 have:=hy xs (SqL.of h1)
 rw [hx] at this
 cases this
 exact⟨F1,.refl tk,rx⟩
theorem Trk.not {F:Addr->Prop}{H:Hp}(t:Trk F H)(h:H a=none):¬F a:=λf=>by
 obtain⟨o,e⟩:=t a f
 rw [h] at e; cases e
theorem Rp.ins_ {F:Addr->Prop}{H:Hp}(h:Rp F H v (.ins C ts)):∃a dx xs,v=.ref a/\H a=some (.ins C dx xs)/\Rpf F H xs ts:=(Rb.v h).ins_
def iK0 (n:Nat)(J:It)(g:TG)(te:TE)(σ:St)(Q:VK)(H:Hp):Prop:=
  ∃W:Nat->Nat->List V->Hp->Prop,(∃m,W 0 m [] H)/\∀i m ys H,W i m ys H->
   (J.stop i H/\∀p,H p=none->Q (.ref p) (upd H p (.lst ys)))\/ (J.go i H/\∀x H',J.yld i H x H'->g x (List.replicate n none++σ) H' λσ2 H2=>σ2.drop n=σ/\nE0 σ2 H2 λb H3=>
    if b=true then te σ2 H3 λy H4=>ys.length<sizeLine/\∃m',m'<m/\W (i+1) m' (ys++ [y]) H4 else∃m',m'<m/\W (i+1) m' ys H3)
theorem mw0 {wi:TI}(h:wi σ H λJ H1=>iK0 n J g te σ Q H1):me0 n wi g nE0 te σ H Q:=h
theorem gW0 {td ty tv:TE}{D:Ends}(h:tv σ H λv H1=>td σ H1 λx H2=>ty σ H2 λy H3=>∃a H4,x=.ref a/\DPut H3 a y v H4/\D.nx σ H4):L2.sDPut td ty tv D σ H:=h
theorem ei0 {F:Addr->Prop}{ts us:List T}{g:TG}{te:TE}{Q:VK}(hy:fN0 J F H ts)(tk:Trk F H)(hl:ts.length<=1000000)(hu:us.length=ts.length)
  (hs:∀(i:Nat) t u F1 H1 x (R:VK),ts[i]?=some t->us[i]?=some u->Mono F H F1 H1->Rp F1 H1 x t->(∀F3 y H3,Mono F1 H1 F3 H3->Rp F3 H3 y u->R y H3)->g x (List.replicate n none++σ) H1 λσ2 H2=>σ2.drop n=σ/\te σ2 H2 R)
  (q:∀F1 H1 p ys,Mono F H F1 H1->H1 p=none->Rps F1 H1 ys us->Q (.ref p) (upd H1 p (.lst ys))):
  iK0 n J g te σ Q H:=by
 refine⟨λi m ys H1=>i<=ts.length/\m=ts.length - i/\ys.length=i/\∃F1,Mono F H F1 H1/\Rps F1 H1 ys (us.take i),⟨_,Ae5 _,rfl,rfl,F,.refl tk,by rw [Al5]; exact .nil⟩,λi m ys H1 ⟨hi,hm,hy',F1,m1,r1⟩=> ?_⟩
 obtain⟨y1,y2⟩:=hy i F1 H1 m1.keep m1.trk
 by_cases e:i=ts.length
 ·subst e
  refine .inl ⟨y2 rfl,λp hp=>q F1 H1 p ys m1 hp ?_⟩
  rw [<- hu,Ae7] at r1
  exact r1
 ·have hi:i<ts.length:=by omega
  have hi2:i<us.length:=by omega
  obtain⟨go,yl⟩:=y1 ts[i] (Aa4 hi)
  refine .inr ⟨go,λx H' hx=> ?_⟩
  obtain⟨F',m',rx⟩:=yl x H' hx
  have fe:∀(A:St->Hp->Hp->Prop) (B:St->Hp->Prop),(λ(σ2:St) (H2:Hp)=>σ2.drop n=σ/\nE0 σ2 H2 λb H3=>if b=true then A σ2 H2 H3 else B σ2 H3)=λσ2 H2=>σ2.drop n=σ/\A σ2 H2 H2:=λA B=>by
   funext σ2 H2
   show (_/\(if true=true then A σ2 H2 H2 else B σ2 H2))=_
   rw [if_pos rfl]
  have fe:=fe (λσ2 _ H3=>te σ2 H3 λy H4=>ys.length<sizeLine/\∃m',m'<m/\i+1<=ts.length/\m'=ts.length - (i+1)/\(ys++ [y]).length=i+1/\∃F1,Mono F H F1 H4/\Rps F1 H4 (ys++ [y]) (us.take (i+1)))
  rw [fe]
  refine hs i ts[i] us[i] F' H' x _ (Aa4 hi) (Aa4 hi2) (m1.trans m') rx λF3 y H3 m3 ry=>⟨by rw [Ae1]; omega,_,by omega,hi,rfl,by rw [Aa5,hy']; rfl,F3,(m1.trans m').trans m3,?_⟩
  rw [Am0 hi2]
  exact(r1.keep (m'.trans m3).keep).append (.cons ry .nil)
theorem Chg.toMono {F F1:Addr->Prop}{H H1:Hp}(c:Chg L F H F1 H1)(h:∀a∈L,H a=none):Mono F H F1 H1:=⟨λb o e=>c.ext b o (λz=>by rw [h b z] at e; cases e) e,c.sub,c.new,c.trk⟩
theorem fO0 {a:Addr}{ob:Obj}{kvs:List (SK × V)}{g:TG}{tb:TS}{D:Ends}{σ:L2.St}{H:Hp}(Pv:Nat->L2.St->Hp->Prop)(h0:Pv 0 σ H)(hl:∀i σ H,Pv i σ H->H a=some (.frz ob (.dT kvs)))
  (hs:∀(i:Nat) k v b σ H,kvs[i]?=some (k,v)->Pv i σ H->KeyAt H b k->g (.ref b) σ H λσ2 H2=>tb {D with nx:=Pv (i+1),ct:=Pv (i+1),bk:=D.nx} σ2 H2) (hd:∀σ H,Pv kvs.length σ H->D.nx σ H):
  ∃W:Nat->Nat->L2.St->Hp->Prop,(∃m,W 0 m σ H)/\∀i m σ H,W i m σ H->
   ((Itq a ob kvs).stop i H/\D.nx σ H)\/ ((Itq a ob kvs).go i H/\∃N:L2.St->Hp->Prop,(∀σ' H',N σ' H'->∃m',m'<m/\W (i+1) m' σ' H')/\∀x H',(Itq a ob kvs).yld i H x H'->g x σ H' λσ2 H2=>tb {D with nx:=N,ct:=N,bk:=D.nx} σ2 H2):=by
 refine⟨λi m σ H=>i<=kvs.length/\m=kvs.length - i/\Pv i σ H,⟨_,Ae5 _,rfl,h0⟩,λi m σ H ⟨hi,hm,w⟩=> ?_⟩
 have ha:=hl i σ H w
 by_cases e:i=kvs.length
 ·subst e
  exact .inl ⟨⟨ha,Ab1 _⟩,hd σ H w⟩
 ·have hi:i<kvs.length:=by omega
  refine .inr ⟨⟨ha,hi⟩,Pv (i+1),λσ' H' w'=>⟨kvs.length - (i+1),by omega,by omega,rfl,w'⟩,λx H' ⟨e,k,v,b,h1,h2,h3⟩=> ?_⟩
  subst e h2
  exact hs i k v b σ H' h1 w h3
theorem nb0:1<=sizeLine:=by rw [Ae1]; decide
theorem oe0 {t u:TS}(h:t {D with nx:=u D} σ H):tSeq t u D σ H:=h
theorem pg0 {te:TE}{Q:List V->Hp->Prop}(h:te σ H λx H1=>tr σ H1 λxs H2=>Q (x::xs) H2):fy0 te tr σ H Q:=h
theorem atI1 {xs:List V}(h:xs[1]?=some v):atI xs 1=some v:=atI_nat h
section
variable {X:Cx}{pins:List (Addr × Obj)}{σ:St}{H:Hp}{s:Shared}
end
section
variable {P:Program}{w:World}{K:Aa3}{mg:Str->Option Value}{base:Heap}
end
section
variable {X:Cx}{Y:Fx}{st:Stmt}{e o:Expr}{es:List Expr}{pos cpos np:Pos}{f:En->Option T}{fa:En->Option (List T)}{x:Str}{C:Addr}{bmB:List Value}{newId initId B:String}{EE:XK}
end
section
variable {X:Cx}{CX:CXT}{k:Nat}{f C:Addr}{fd:FuncData}{ps:List Str}{sp:Sp}{E:XK}{x m:Str}{p pos apos:Pos}{e o:Expr}{es:List Expr}{ta:TE}{t:TA}
end
section
variable {X:Cx}
end
section
open PySem.W PySem.Calls Builtin Builtin.ObjectAttr Builtin.Getset_descriptor
variable {prog:Program}{w:World}{A:Around}{E:Value->Shared->Prop}{s:Shared}{K:Frag}{x D:Addr}{R:Result->Shared->Prop}
end
def eIsX (C:Addr)(b:Bool)(f:En->Option T):En->Option T:=λε=>match f ε with
 |some (.exc C')=>if C'=C then some (.bl b) else none
 |_=>none
section
variable {X:Cx}{Y:Fx}{e a:Expr}{es:List Expr}{pos p p2:Pos}{f:En->Option T}{C D:Addr}{x:Str}{b:Bool}{n:String}
end
section
variable {P:Program}{w:World}{K:Aa3}{mg:Str->Option Value}{base:Heap}
end
section
variable {X:Cx}{Y:Fx}{k:Nat}{f C:Addr}{fd:FuncData}{ps:List Str}{x m:Str}{e o:Expr}{es:List Expr}{gs:List T->Option Out}{fa:En->Option (List T)}{fo:En->Option T}
end
def inT (s:T):List T->Option Bool
 | []=>some false
 |y::ys=>match eqT 9 y s,inT s ys with
  |some b,some c=>some (b||c)
  |_,_=>none
theorem oz0 (h:inT s (y::ys)=some b):∃c d,eqT 9 y s=some c/\inT s ys=some d/\b=(c||d):=by
 unfold inT at h
 split at h
 ·rename_i c d h1 h2
  exact⟨c,d,h1,h2,(Option.some.inj h).symm⟩
 ·cases h
def φNiD (s t:T):Option T:=match t with
 | .lst ts=>(inT s ts).map λb=> .bl (!b)
 |_=>none
section
variable {X:Cx}{Y:Fx}{a b:Expr}{pos:Pos}{f g:En->Option T}
theorem iM0 {A:Around}{F:Addr->Prop}(I:Inv X pins σ H s)(hu:A.units+9<cLine)(rx:Rb F H x t)(rv:RelV x v)(e:Value->Bool)
  (he:∀y u s1 c,Rp F H y s1->RelV y u->eqT 9 s1 t=some c->e u=c):∀{xs:List V} {ts:List T} {us:List Value} {c:Bool},Rps F H xs ts->Vals xs us->inT t ts=some c->(∀u∈us,SeqAt.EqAt A s u v (e u))/\us.any e=c
 |_,_,_,_,.nil,r,h=>by
  cases r
  cases h
  exact⟨λu hu=>(by cases hu),rfl⟩
 |_,_,_,_,.cons hy ry,r,h=>by
  cases r with
  |cons ru rs=>
   obtain⟨c1,d1,h1,h2,rfl⟩:=oz0 h
   obtain⟨i1,i2⟩:=iM0 I hu rx rv e he ry rs h2
   have ec:=he _ _ _ _ hy ru h1
   refine⟨λu hu'=> ?_,by rw [Ai0,i2,ec]⟩
   rcases Ab2.mp hu' with rfl|hu'
   ·rw [ec]
    exact mi0 I 9 _ _ c1 A _ _ _ _ h1 hu (.v hy) rx ru rv
   ·exact i1 u hu'
open Classical in
theorem rN0 (hu:X.A.units+10<cLine):OpR X (compareOp .NotIn) (λx y H Q=>∃F p xs ts t c,y=.ref p/\H p=some (.lst xs)/\Rps F H xs ts/\Rb F H x t/\inT t ts=some c/\Q (.bl (!c)) H):=by
 intro pins s σ H x y v u Q I rx ry h
 obtain⟨F,p,xs,ts,t,c,rfl,hp,rs,rt,hc,q⟩:=h
 cases ry
 obtain⟨its,r,pl,hz⟩:=I.list (SqL.of hp)
 have hu1:X.A.in1.units+9<cLine:=by show X.A.units+1+9<cLine; omega
 obtain⟨i1,i2⟩:=iM0 (A:=X.A.in1) I hu1 rt rx (λu=>decide (∃y s1,Rp F H y s1/\RelV y u/\eqT 9 s1 t=some true)) (λy u s1 c1 h1 h2 h3=>by
  cases c1 with
  |true=>exact Ad9 ⟨y,s1,h1,h2,h3⟩
  |false=>
   refine Ad3 λ⟨y',s2,g1,g2,g3⟩=> ?_
   have e1:=RelV.inj h2 g2
   subst e1
   have e2:=Rp.inj h1 g1
   subst e2
   rw [h3] at g3
   cases g3) rs r hc
 refine SeqAt.notIn_listAt _ pl.isList (λw hw=>i1 w (by simpa using hw)) ⟨.bl _,H,I,rfl,?_⟩
 have i3:=i2
 rw [<- List.any_toArray] at i3
 rw [i3]
 exact q
theorem o_niD:Op2 (λx y H Q=>∃F p xs ts t c,y=.ref p/\H p=some (.lst xs)/\Rps F H xs ts/\Rb F H x t/\inT t ts=some c/\Q (.bl (!c)) H) φNiD:=by
 intro F H x y s t u Q tk rx ry h k
 unfold φNiD at h
 split at h
 ·cases q:inT s _ with
  |none=>rw [q] at h; cases h
  |some c=>
   rw [q] at h
   cases h
   obtain⟨a,xs,rfl,ha,rs⟩:=ry.lst_
   exact⟨F,a,xs,_,s,c,rfl,ha,rs,rx,q,k F _ H (.refl tk) (.bl _)⟩
 ·cases h
theorem rw0 (hu:X.A.units+10<cLine)(ha:BE X Y a f)(hb:BE X Y b g)(hm:behindInMarks .NotIn b=false:=by with_unfolding_all rfl):QT X Y (.Compare a [.NotIn] [b] pos) (qB (e2 φNiD f g)):=dV0 (rN0 hu) o_niD ha hb hm
end
theorem hu10 (hr:Room k A):A.units+10<cLine:=Ao1 (Ar5 (by decide:10<=64) _) hr.units
section
variable {X:Cx}{Y:Fx}{e:Expr}{pos:Pos}
end
section
variable {P:Program}{w:World}{K:Aa3}{mg:Str->Option Value}{base:Heap}
end
section
variable {X:Cx}{pins:List (Addr × Obj)}{σ:St}{H H':Hp}{s s':Shared}{a:Addr}{cls a0:Value}{B h6:Heap}
end
section
variable {P:Program}{w:World}{K:Aa3}{mg:Str->Option Value}{base:Heap}
end
section
variable {X:Cx}{Y:Fx}{k:Nat}{C:Addr}{ps:List Str}{x m:Str}{p pos pos' cpos apos:Pos}{e o:Expr}{es:List Expr}{gs:List T->Option Out}{fa:En->Option (List T)}{fo:En->Option T}{EE:XK}
end
section
variable {X:Cx}{Y:Fx}{k:Nat}{ps:List Str}{x m z:Str}{e o:Expr}{es:List Expr}{gs:List T->Option Out}{fa:En->Option (List T)}
end
def hF0:T->Bool
 | .non=>true
 |_=>false
def qI0 (s t:T):Option T:=match t with
 | .non=>some (.bl (!hF0 s))
 |_=>none
theorem Rb.isNon {F:Addr->Prop}(r:Rb F H x s):decide (x=.non)=hF0 s:=by
 cases r with
 |v r=>cases r<;>simp [hF0]
 |o r=>cases r<;>simp [hF0]
theorem rn0:Op2 (λx y H Q=>y=.non/\Q (.bl (!decide (x=.non))) H) qI0:=by
 intro F H x y s t u Q tk rx ry h k
 unfold qI0 at h
 split at h
 ·cases h
  refine⟨ry.non_,?_⟩
  rw [rx.isNon]
  exact k F _ H (.refl tk) (.bl _)
 ·cases h
section
variable {X:Cx}{Y:Fx}{a b e:Expr}{pos pos' px:Pos}{f g:En->Option T}{x:Str}{i:Nat}
end
end L2.BD
namespace L2
def maxD (d:V):List Int->V
 | []=>d
 |n::ns=> .int (maxI n ns)
section
variable {prog:Program}{w:World}{A:Around}{R:Result->Shared->Prop}{I:Addr}{fp wr:List Addr}{P:Nat->Value->Prop}{St:Nat->Heap->Prop}{ns:List Int}
theorem cv0:(toString "max" ++toString ".loop" :String)= "max.loop" :=by decide
theorem nW0 (W:Walks prog w A.in1 I fp wr ns.length P St)(hP:∀i v,P i v->∃m t,ns[i]?=some m/\v=.int m t)(S:Addr)(hSf:S∉fp)(kw:List (Str × Value)):
  ∀(r pre:List Int) (s:Shared) (m:Int) (t:Tok) (c:Nat),ns=pre++r->St pre.length s.heap->s.heap.get? S=some {cls:=.type "list",dict:=none,data:=.seq #[.int m t,.int m t] c,slots:= #[]}->
  (∀t' h' tk,(∀b o,b∉wr->b≠S->s.heap.get? b=some o->h'.get? b=some o)->R (.ok (.ret (.int (maxI m r) t'))) {s with heap:=h',toks:=tk})->
  codeAny (model prog w) A (.builtin "max.loop" ⟨[.ref I,.none,.ref S],kw⟩) R s:=by
 have hSw:S∉wr:=λh=>hSf (W.sub _ h)
 intro r
 induction r with
 |nil=>
  intro pre s m t c e hst hS hR
  rw [Ag7] at e
  refine Am6 Ap3 ?_
  rw [Around.under_plainId Ai7 _]
  show wpAny _ A.in1 (seqItems? (.ref S)>>=_) _ _ s
  refine Aa0 (Ai4 hS rfl ?_)
  show wpAny _ A.in1 (tryCatch (pyNext (.ref I)) _>>=_) _ _ s
  refine Aa0 (Ao6 (W.done s _ _ (e▸hst) λh' tk k=> ?_))
  show wpAny _ A.in1 (updateSeq S (λ_=> #[])>>=_) _ _ _
  refine Aa0 ?_
  refine Av0 (k S _ hSw hS) rfl (Aa0 (Am8 (Aa8 ?_)))
  exact hR t _ tk λb o h1 h2 g=>(Aj6 _ _ (Ne.symm h2)).trans (k b o h1 g)
 |cons x r ih=>
  intro pre s m t c e hst hS hR
  have lt:pre.length<ns.length:=by rw [e]; simp
  have e':ns=(pre++ [x])++r:=by rw [e]; simp
  refine Am6 Ap3 ?_
  rw [Around.under_plainId Ai7 _]
  show wpAny _ A.in1 (seqItems? (.ref S)>>=_) _ _ s
  refine Aa0 (Ai4 hS rfl ?_)
  show wpAny _ A.in1 (tryCatch (pyNext (.ref I)) _>>=_) _ _ s
  refine Aa0 (Ao6 (W.item _ s _ _ lt hst λv h' tk hv hst' k=> ?_))
  obtain⟨y,ty,ey,rfl⟩:=hP _ _ hv
  have:y=x:=by rw [e] at ey; simpa using ey.symm
  subst this
  have hS':=k S _ hSw hS
  have hst':St (pre++ [y]).length h':=by rw [Aa5]; exact hst'
  show wpAny _ A.in1 (tryCatch (holding [Value.int y ty,.int y ty] (richCompare .Gt (.int y ty) (.int m t)>>=_)) _>>=_) _ _ _
  refine Aa0 (Ao6 (Al3 (Aa0 (PyProof.Rows.gt_int ?_))))
  refine Aa0 (Al3 (Ah0 ?_))
  refine Aa0 (Am8 (Aa8 ?_))
  by_cases hb:m<y
  ·rw [Ad9 hb]
   simp only [Al1]
   refine Aa0 ?_
   refine Av0 hS' rfl (Aa0 (Am8 ?_))
   rw [cv0]
   refine Aa8 ⟨Ap5 Ai7 _,ih (pre++ [y]) _ y ty _ e' (W.frame _ _ _ hst' λb hbf o g=> ?_) (An0 _ hS' rfl) λt' h2 tk2 k2=> ?_⟩
   ·exact(Aj6 _ _ (λz:S=b=>hSf (by rw [z]; exact hbf))).trans g
   ·have:=hR t' h2 tk2 λb o h1 h3 g=>k2 b o h1 h3 ((Aj6 _ _ (Ne.symm h3)).trans (k b o h1 g))
    unfold maxI at this
    rw [if_pos hb] at this
    exact this
  ·rw [Ad3 hb]
   simp only [Ad6,Ah2]
   refine Aa0 (Am8 ?_)
   rw [cv0]
   refine Aa8 ⟨Ap5 Ai7 _,ih (pre++ [y]) _ m t c e' hst' hS' λt' h2 tk2 k2=> ?_⟩
   have:=hR t' h2 tk2 λb o h1 h3 g=>k2 b o h1 h3 (k b o h1 g)
   unfold maxI at this
   rw [if_neg hb] at this
   exact this
theorem ml0 (W:Walks prog w A.in1 I fp wr ns.length P St)(hP:∀i v,P i v->∃m t,ns[i]?=some m/\v=.int m t)(S:Addr)(hSf:S∉fp){s:Shared}(rd:RelV x d)(hst:St 0 s.heap)
  (hS:s.heap.get? S=some {cls:=.type "list",dict:=none,data:=.seq #[] c,slots:= #[]})
  (hR:∀v h' tk,RelV (maxD x ns) v->(∀b o,b∉wr->b≠S->s.heap.get? b=some o->h'.get? b=some o)->R (.ok (.ret v)) {s with heap:=h',toks:=tk}):
  codeAny (model prog w) A (.builtin "max.loop" ⟨[.ref I,.none,.ref S],[("default",d)]⟩) R s:=by
 have hSw:S∉wr:=λh=>hSf (W.sub _ h)
 refine Am6 Ap3 ?_
 rw [Around.under_plainId Ai7 _]
 show wpAny _ A.in1 (seqItems? (.ref S)>>=_) _ _ s
 refine Aa0 (Ai4 hS rfl ?_)
 show wpAny _ A.in1 (tryCatch (pyNext (.ref I)) _>>=_) _ _ s
 cases ns with
 |nil=>
  refine Aa0 (Ao6 (W.done s _ _ hst λh' tk k=> ?_))
  refine Aa0 (An7 (Aa8 ?_))
  exact hR d _ tk rd λb o h1 h2 g=>k b o h1 g
 |cons n ns=>
  refine Aa0 (Ao6 (W.item 0 s _ _ (Nat.succ_pos _) hst λv h' tk hv hst' k=> ?_))
  obtain⟨y,ty,ey,rfl⟩:=hP _ _ hv
  have:n=y:=by simpa using ey
  subst this
  have hS':=k S _ hSw hS
  show wpAny _ A.in1 (updateSeq S (λ_=> #[Value.int n ty,.int n ty])>>=_) _ _ _
  refine Aa0 ?_
  refine Av0 hS' rfl ?_
  rw [cv0]
  refine Aa8 ⟨Ap5 Ai7 _,nW0 W hP S hSf _ ns [n] _ n ty _ rfl (W.frame _ _ _ hst' λb hbf o g=> ?_) (An0 _ hS' rfl) λt' h2 tk2 k2=> ?_⟩
  ·exact(Aj6 _ _ (λz:S=b=>hSf (by rw [z]; exact hbf))).trans g
  ·exact hR _ h2 tk2 ⟨t',rfl⟩ λb o h1 h3 g=>k2 b o h1 h3 ((Aj6 _ _ (Ne.symm h3)).trans (k b o h1 g))
end
theorem lU0 (a d:Value):argsOk "max" ⟨[a],[("default",d)]⟩:=by unfold argsOk; kernel_rfl
section
variable {X:Cx}
def tMaxD (K:Aa3)(ta td:TE):TE:=λσ H Q=>ta σ H λx H1=>td σ H1 λy H2=>∃a ns,x=.ref a/\SqL K H2 a (ns.map V.int)/\Q (maxD y ns) H2
theorem lC0 (hc:X.calm=true){ns:List Int}{Q:VK}(I:Inv X pins σ H s)(rd:RelV x d)(ha:SqL X.K H a (ns.map V.int))(q:Q (maxD x ns) H):
  wpAny (model X.prog X.w) X.A (call (.builtin "max") [.ref a] [("default",d)]) (EP X pins σ Q) X.xe s:=by
 have hh:X.A.in1.handled=none:=by simp [I.ok.hd hc]
 obtain⟨its,rv,pl,_⟩:=I.list ha
 have la:a<s.heap.objs.size:=let ⟨o,e,_⟩:=pl.isList; Ab6 e
 have ln:its.toArray.size=ns.length:=by have:=rv.length; rw [Aa1] at this; rw [Ab8,this]
 refine kmb_tree PySem.F.kind_max PySem.F.plain_max PySem.F.entry_max (lU0 _ _) ?_
 show wpAny _ X.A.in1 (Builtin.Builtins.bindParams "max" ["key", "default"] 0 ⟨[],[("default",d)]⟩>>=_) _ _ s
 refine Aa0 (wpAny_of_eq (show Builtin.Builtins.bindParams "max" ["key", "default"] 0 ⟨[],[("default",d)]⟩=pure [none,some d] from rfl) ?_)
 refine Aa0 (Aa8 ?_)
 refine Aa0 (Ao9 pl.isList ?_)
 refine Aa0 (Ah1 ?_)
 rw [cv0]
 have W:=Walks.list (prog:=X.prog) (w:=X.w) hh s.heap.objs.size a (Ad4 la) its.toArray
 rw [ln] at W
 have nf:s.heap.objs.size+1∉ [s.heap.objs.size,a]:=λz=>by
  simp only [Ab2,Ad0,Ah8] at z
  rcases z with z|z
  ·exact absurd z (Nat.succ_ne_self _)
  ·rw [<- z] at la; exact absurd la (An5.mpr (Av2 _))
 refine Aa8 ⟨Ap5 Ai7 _,ml0 W (λi v h=>jF0 rv h) _ (by rw [Af6]; exact nf) rd ⟨⟨_,Aa7 _ (Ab7 _ rfl),rfl,rfl⟩,(pl.isList.push _).push _⟩ (Ab7 _ rfl) λv h' tk rv' k=> ?_⟩
 refine⟨_,H,I.kept λb o e=>k b o (λz=> ?_) (λz=> ?_) (Aa7 _ (Aa7 _ e)),rv',q⟩
 ·rw [Aa6.mp z] at e; exact absurd (Ab6 e) (Ai6 _)
 ·rw [z,Af6] at e; exact absurd (Ab6 e) (An5.mpr (Av2 _))
theorem pF0 (hc:X.calm=true)(hg:Gl X "max") (hm:X.mg "max" =none) (ha:PE X e ta) (hd:PE X d td) (hv:bootBuiltins "max" =some (.builtin "max"):=by rfl)
  (hs:starEach [e] X.env=(false,eval e X.env)::starEach [] X.env:=by rfl) (he:backTo pos (starEach [e] X.env)=(false,eval e X.env)::backTo pos (starEach [] X.env):=by rfl) (hpl:(backTo pos (starEach [e] X.env)).any (·.1)=false:=by rfl):PE X (.Call (.Name "max" p) [e] [⟨some "default",d,kp⟩] pos) (tMaxD X.K ta td):=by
 intro pins s σ H Q I h
 refine Aj2 (en0 I hg hm hv ?_ (by decide) (by decide))
 have hA:PA X [e] (fy0 ta tNil):=ao0 ha ax0 hs
 have hK:PK X [⟨some "default",d,kp⟩] (fy0 td tNil):=pi0 hd se0
 refine PyProof.Rows.callWith_kw (thn (hA pos pins s σ H (λus H1=>match us with
  | [x]=>td σ H1 λy H2=>∃a ns,x=.ref a/\SqL X.K H2 a (ns.map V.int)/\Q (maxD y ns) H2
  |_=>False) I h) λus s1 ⟨vs,H1,I1,r1,q1⟩=> ?_) he hpl rfl rfl
 match vs,us,r1,q1 with
 | [x],us,r1,q1=>
  obtain⟨u,rfl,ru⟩:=gp0 r1
  refine thn (hK pos pins s1 σ H1 (λus H2=>match us with
   | [y]=>∃a ns,x=.ref a/\SqL X.K H2 a (ns.map V.int)/\Q (maxD y ns) H2
   |_=>False) I1 q1) λus s2 ⟨vs,H2,I2,r2,q2⟩=> ?_
  match vs,us,r2,q2 with
  | [y],us,r2,q2=>
   obtain⟨u2,rfl,ru2⟩:=gp0 r2
   obtain⟨a,ns,rfl,hl,q⟩:=q2
   cases ru
   exact lC0 hc I2 ru2 hl q
  | [],_,_,q2=>exact q2.elim
  |_::_::_,_,_,q2=>exact q2.elim
 | [],_,_,q1=>exact q1.elim
 |_::_::_,_,_,q1=>exact q1.elim
end
end L2
namespace L2.BD
def gV0 (n:Nat)(J:It)(g:TG)(tt:TT)(te:TE)(σ:L2.St)(Q:VK)(H:Hp):Prop:=
  ∃W:Nat->Nat->List V->Hp->Prop,(∃m,W 0 m [] H)/\∀i m ys H,W i m ys H->
   (J.stop i H/\∀p,H p=none->Q (.ref p) (upd H p (.lst ys)))\/ (J.go i H/\∀x H',J.yld i H x H'->g x (List.replicate n none++σ) H' λσ2 H2=>σ2.drop n=σ/\tt σ2 H2 λb H3=>
    if b=true then te σ2 H3 λy H4=>ys.length<sizeLine/\∃m',m'<m/\W (i+1) m' (ys++ [y]) H4 else∃m',m'<m/\W (i+1) m' ys H3)
theorem lf0 {wi:TI}(h:wi σ H λJ H1=>gV0 n J g tt te σ Q H1):me0 n wi g tt te σ H Q:=h
theorem gB0 {α:Type}{F:Addr->Prop}{rs:List α}{tr:α->T}{P:α->Bool}{g:TG}{tt:TT}{Q:VK}(hy:fN0 J F H (rs.map tr))(tk:Trk F H)(hl:rs.length<=1000000)
  (hs:∀a∈rs,∀F1 H1 x (R:VK) (N:Hp->Prop),Mono F H F1 H1->Rp F1 H1 x (tr a)->(P a=true->R x H1)->(P a=false->N H1)->g x (List.replicate n none++σ) H1 λσ2 H2=>σ2.drop n=σ/\tt σ2 H2 λb H3=>if b=true then te σ2 H3 R else N H3)
  (q:∀F1 H1 p ys,Mono F H F1 H1->H1 p=none->Rps F1 H1 ys ((rs.filter P).map tr)->Q (.ref p) (upd H1 p (.lst ys))):
  gV0 n J g tt te σ Q H:=by
 refine⟨λi m ys H1=>i<=rs.length/\m=rs.length - i/\ys.length<=i/\∃F1,Mono F H F1 H1/\Rps F1 H1 ys (((rs.take i).filter P).map tr),⟨_,Ae5 _,rfl,Ab1 _,F,.refl tk,by rw [Al5]; exact .nil⟩,λi m ys H1 ⟨hi,hm,hy',F1,m1,r1⟩=> ?_⟩
 obtain⟨y1,y2⟩:=hy i F1 H1 m1.keep m1.trk
 by_cases e:i=rs.length
 ·subst e
  refine .inl ⟨y2 (by rw [Aa1]),λp hp=>q F1 H1 p ys m1 hp ?_⟩
  rw [Ae7] at r1
  exact r1
 ·have hi:i<rs.length:=by omega
  have er:rs[i]?=some rs[i]:=Aa4 hi
  obtain⟨go,yl⟩:=y1 (tr rs[i]) (by rw [Ab0,er]; rfl)
  refine .inr ⟨go,λx H' hx=> ?_⟩
  obtain⟨F',m',rx⟩:=yl x H' hx
  refine hs rs[i] (Ak7 hi) F' H' x _ _ (m1.trans m') rx (λht=>⟨by rw [Ae1]; omega,_,by omega,hi,rfl,?_,F',m1.trans m',?_⟩) (λhf=>⟨_,by omega,hi,rfl,by omega,F',m1.trans m',?_⟩)
  ·rw [Aa5,Ab5]; omega
  ·rw [Am0 hi,As4,List.filter_cons,if_pos ht,List.filter_nil,Ac3]
   exact(r1.keep m'.keep).append (.cons rx .nil)
  ·rw [Am0 hi,As4,List.filter_cons,if_neg (by rw [hf]; decide),List.filter_nil,Ag7]
   exact r1.keep m'.keep
theorem Mono.lent {F F0 F':Addr->Prop}(m:Mono F0 H F' H')(tk:Trk F H):Mono F H F H':=⟨m.ext,λ_ h=>h,λ_ h=> .inl h,λa h=>let ⟨o,e⟩:=tk a h; ⟨o,m.ext a o e⟩⟩
theorem DGet.f {H:Hp}(e:H a=some (.frz ob (.dT kvs)))(eb:KeyAt H b k):DGet H a (.ref b) (valV kvs k):=.inr ⟨kvs,k,b,.inr ⟨_,e⟩,rfl,eb,rfl⟩
end L2.BD
namespace L2
theorem ga0:∀(ns:List Int) (n:Int),maxI n ns∈n::ns
 | [],n=> .head _
 |x::xs,n=>by
  have:=ga0 xs (if x>n then x else n)
  show maxI (if x>n then x else n) xs∈_
  rcases Ab2.mp this with z|z
  ·rw [z]; split
   ·exact .tail _ (.head _)
   ·exact .head _
  ·exact .tail _ (.tail _ z)
theorem ib0:∀(ns:List Int) (n:Int),∀x∈n::ns,x<=maxI n ns
 | [],n,x,h=>by rw [Aa6.mp h]; exact Int.le_refl _
 |y::ys,n,x,h=>by
  show x<=maxI (if y>n then y else n) ys
  have ih:=ib0 ys (if y>n then y else n)
  have h0:=ih _ (.head _)
  have h3:n<=(if y>n then y else n)/\y<=(if y>n then y else n):=by split<;>omega
  rcases Ab2.mp h with z|z
  ·rw [z]; exact Int.le_trans h3.1 h0
  ·rcases Ab2.mp z with z|z
   ·rw [z]; exact Int.le_trans h3.2 h0
   ·exact ih x (.tail _ z)
theorem rH0 {K:Aa3}{ta td:TE}{σ:L2.St}{H:Hp}{Q:VK}(h:ta σ H λx H1=>td σ H1 λy H2=>∃a ns,x=.ref a/\SqL K H2 a (ns.map V.int)/\Q (maxD y ns) H2):tMaxD K ta td σ H Q:=h
end L2
namespace L2.BD
theorem gh0 {F:Addr->Prop}:∀{ns:List Int} {xs:List V},Rps F H xs (ns.map T.int)->xs=ns.map V.int
 | [],xs,r=>by cases r; rfl
 |n::ns,xs,r=>by
  cases r with
  |cons h r=>cases h; rw [gh0 r]; rfl
def φIsN (s t:T):Option T:=match t with
 | .non=>some (.bl (hF0 s))
 |_=>none
theorem o_isN:Op2 (λx y H Q=>y=.non/\Q (.bl (decide (x=.non))) H) φIsN:=by
 intro F H x y s t u Q tk rx ry h k
 unfold φIsN at h
 split at h
 ·cases h
  refine⟨ry.non_,?_⟩
  rw [rx.isNon]
  exact k F _ H (.refl tk) (.bl _)
 ·cases h
theorem rZ0 {f g:En->Option T}(ha:BE X Y a f)(hb:BE X Y b g)(hm:behindInMarks .Is b=false:=by with_unfolding_all rfl):QT X Y (.Compare a [.Is] [b] pos) (qB (e2 φIsN f g)):=dV0 si0 o_isN ha hb hm
theorem qx0 {f g:En->Option T}(ha:BE X Y a f)(hb:BE X Y b g)(hm:behindInMarks .IsNot b=false:=by with_unfolding_all rfl):QT X Y (.Compare a [.IsNot] [b] pos) (qB (e2 qI0 f g)):=dV0 pR0 rn0 ha hb hm
end L2.BD
namespace L2
theorem gZ0:ds0 X (.builtin "len") (λxs H Q=>∃a kvs,xs=[V.ref a]/\Rd H a (.dT kvs)/\Q (.int kvs.length) H):=by
 intro pins s σ H xs us Q I r h
 obtain⟨a,kvs,rfl,ha,q⟩:=h
 obtain⟨u,rfl,ru⟩:=gp0 r
 cases ru
 obtain⟨z,hd,ws,rel,o,es,ep,ho,hc,hdat,he,_⟩:=kE0 I.hok ha
 have hl:es.size=kvs.length:=by rw [<- Am3,he,Aa1]; exact rel.length.symm
 have ty:s.TypeIs (.ref a) "dict" :=⟨o,ho,hc.1⟩
 rw [Ae1] at z
 have mt:MeetsIn X.prog X.w (Builtin.«dict.__len__» ⟨[.ref a],[]⟩) (λ_ R t=>t.heap.get? a=some o/\R (.ok (.ret (.int es.size t.toks))) {t with toks:=t.toks+1}):=.of_wp λA R t ⟨g,k⟩=>by
  show wpAny _ _ (dictSize a>>=_) _ _ t
  unfold dictSize
  refine Aa0 (Aa0 (Ap0 g hdat (Aa8 ?_)))
  show wpAny _ _ (Builtin.Dict.pendingCount a>>=_) _ _ t
  refine Aa0 (wpAny_pendingCount_other hd (wpAny_ret_mkInt ?_))
  rw [Nat.add_zero]
  exact k
 refine Calls.call_function_entry kind_len plain_len entry_len (args_len1 _) ?_
 unfold Builtin.«len»
 refine Aa0 (m:=oneArg "len" _) (Aa8 (Aa0 (m:=callSpecial? (.ref a) (Str.ofString "__len__")) (Ag1 (name:=Str.ofString "__len__") ty Av6 (call_meetsIn Av6 ty PySem.F.entry_dict_len (PySem.F.args_dict_len_1 _) mt ⟨ho,?_⟩))))
 show wpAny _ _ _ _ _ {s with toks:=s.toks+1}
 refine Aa0 (Al3 (Aa8 (Aa0 (Am8 ?_))))
 show wpAny _ _ (if((es.size:Nat):Int)<0 then _ else _) _ _ _
 rw [if_neg (by omega)]
 show wpAny _ _ (if((es.size:Nat):Int)≥2^63 then _ else _) _ _ _
 rw [if_neg (by omega)]
 refine Aa0 (wpAny_mkInt (Aa8 ⟨_,rfl,.int kvs.length,H,?_,⟨_,by rw [hl]⟩,q⟩))
 exact(I.tok _).tok _
end L2
local macro_rules|`(tactic|simp_all_arith)=>`(tactic|exact ⟨rfl, rfl, rfl, by decide +kernel, rfl, by decide +kernel, by decide +kernel⟩)
namespace Bed1
open PySem PySem.Spec PyProof.Rows L2 L2.BD
seal PE PT PW PA PS PSs PI PG PGs PIf PO
abbrev yg0:Stmt:=top 21
def Wk0:List Str:=["value", "least", "most"]
def xg0:List Str:=["value", "least", "most"]
def va0 (C:Addr):En->Option Fl:=(sSeq (sIf (qOr (qB (eIs "bool" (bVar 0))) (qNot (qB (eIs "int" (bVar 0))))) (sRet false (eC (.bl false))) sNx)
  (sRet false (dn0 φLe φLe (bVar 1) (bVar 0) (bVar 2))))
def W7 (C:Addr):List T->Option (Bool × T):=fnT Wk0 3 (va0 C)
abbrev hg0:Stmt:=top 22
def Vk0:List Str:=["value", "least", "most", "what"]
def Zg0:List Str:=["value", "least", "most", "what"]
def xa0 (C:Addr):En->Option Fl:=(sIf (qNot (qB (eFn (W7 C) (aa0 (eVar 0) (aa0 (eVar 1) (aa0 (eVar 2) aNil)))))) (λ_=>none) sNx)
def Z0 (C:Addr):List T->Option (Bool × T):=fnT Vk0 4 (xa0 C)
abbrev Qg0:Stmt:=top 24
def Yk0:List Str:=["soils", "top", "soil"]
def Jg0:List Str:=["soils", "top"]
def ha0 (C:Addr):En->Option Fl:=(sSeq (bd0 (eFn (Z0 C) (aa0 (eVar 1) (aa0 (eC (.int 1)) (aa0 (eC (.int 5)) (aa0 (eC (.str "the top")) aNil))))))
  (sSeq (sIf (qNot (qB (eIs "list" (bVar 0)))) (λ_=>none) sNx)
  (sSeq (bd0 (eFn (Z0 C) (aa0 (ay0 φLen (aa0 (bVar 0) aNil)) (aa0 (eC (.int 1)) (aa0 (eC (.int 3)) (aa0 (eC (.str "the count of beds")) aNil))))))
  (sFor (iLst (eVar 0)) (aq0 2) (bd0 (eFn (Z0 C) (aa0 (eVar 2) (aa0 (eC (.int 0)) (aa0 (eVar 1) (aa0 (eC (.str "the soil of a bed")) aNil))))))))))
def X3 (C:Addr):List T->Option (Bool × T):=fnT Yk0 2 (ha0 C)
abbrev Kg0:Stmt:=top 25
def Xk0:List Str:=["crop"]
def Wg0:List Str:=["crop"]
def Za0 (C:Addr):En->Option Fl:=(sSeq (sIf (qOr (qNot (qB (eIs "tuple" (bVar 0)))) (qB (e2 φNe (ay0 φLen (aa0 (bVar 0) aNil)) (eC (.int 5))))) (λ_=>none) sNx)
  (sSeq (sIf (qOr (qNot (qB (eIs "str" (e2 φIx (bVar 0) (eC (.int 0)))))) (qB (e2 φEq (e2 φIx (bVar 0) (eC (.int 0))) (eC (.str ""))))) (λ_=>none) sNx)
  (sSeq (bd0 (eFn (Z0 C) (aa0 (e2 φIx (bVar 0) (eC (.int 1))) (aa0 (e1 φNeg (eC (.int 3))) (aa0 (eC (.int 3)) (aa0 (eC (.str "the change of a crop")) aNil))))))
  (sSeq (bd0 (eFn (Z0 C) (aa0 (e2 φIx (bVar 0) (eC (.int 2))) (aa0 (eC (.int 0)) (aa0 (eC (.int 1000)) (aa0 (eC (.str "the harvest of a crop")) aNil))))))
  (sSeq (bd0 (eFn (Z0 C) (aa0 (e2 φIx (bVar 0) (eC (.int 3))) (aa0 (eC (.int 0)) (aa0 (eC (.int 3)) (aa0 (eC (.str "the gap of a crop")) aNil))))))
  (sIf (qNot (qB (eIs "list" (e2 φIx (bVar 0) (eC (.int 4)))))) (λ_=>none) sNx))))))
def j4 (C:Addr):List T->Option (Bool × T):=fnT Xk0 1 (Za0 C)
abbrev Vg0:Stmt:=top 23
def zl0:List Str:=["name", "names"]
def Yg0:List Str:=["name", "names"]
def Qa0 (C:Addr):En->Option Fl:=(sIf (qB (e2 (φIn true) (bVar 0) (bVar 1))) (λ_=>none) sNx)
def J1 (C:Addr):List T->Option (Bool × T):=fnT zl0 2 (Qa0 C)
abbrev Ja0:Stmt:=top 28
def Ka0:List Str:=["crops"]
def Xg0:List Str:=["crops"]
def Wa0 (C:Addr):En->Option Fl:=(sRet true (ba0 1 (iLst (eVar 0)) (aq0 0) bu0 (e2 φIx (bVar 0) (eC (.int 0)))))
def X1 (C:Addr):List T->Option (Bool × T):=fnT Ka0 1 (Wa0 C)
abbrev zh0:Stmt:=top 26
def ql0:List Str:=["crops", "crop", "names", "name"]
def qh0:List Str:=["crops"]
def Va0 (C:Addr):En->Option Fl:=(sSeq (sIf (qNot (qB (eIs "list" (bVar 0)))) (λ_=>none) sNx)
  (sSeq (bd0 (eFn (Z0 C) (aa0 (ay0 φLen (aa0 (bVar 0) aNil)) (aa0 (eC (.int 1)) (aa0 (eC (.int 5)) (aa0 (eC (.str "the count of crops")) aNil))))))
  (sSeq (sFor (iLst (eVar 0)) (aq0 1) (bd0 (eFn (j4 C) (aa0 (eVar 1) aNil))))
  (sSeq (sSet 2 (eFnF (X1 C) (aa0 (eVar 0) aNil)))
  (sSeq (sIf (qB (e2 φNe (ee0 (bVar 2)) (ay0 φLen (aa0 (bVar 2) aNil)))) (λ_=>none) sNx)
  (sFor (iLst (eVar 0)) (aq0 1) (sFor (iLst (e2 φIx (bVar 1) (eC (.int 4)))) (aq0 3) (bd0 (eFn (J1 C) (aa0 (eVar 3) (aa0 (eVar 2) aNil)))))))))))
def v4 (C:Addr):List T->Option (Bool × T):=fnT ql0 1 (Va0 C)
abbrev jh0:Stmt:=top 27
def jl0:List Str:=["wants", "names", "name", "pair"]
def kh0:List Str:=["wants", "names"]
def Ya0 (C:Addr):En->Option Fl:=(sSeq (sIf (qNot (qB (eIs "dict" (bVar 0)))) (λ_=>none) sNx)
  (sFor (hM0 (eVar 0)) (cu0 2 3) (sSeq (bd0 (eFn (J1 C) (aa0 (eVar 2) (aa0 (eVar 1) aNil))))
  (sSeq (sIf (qOr (qNot (qB (eIs "tuple" (bVar 3)))) (qB (e2 φNe (ay0 φLen (aa0 (bVar 3) aNil)) (eC (.int 2))))) (λ_=>none) sNx)
  (sSeq (bd0 (eFn (Z0 C) (aa0 (e2 φIx (bVar 3) (eC (.int 1))) (aa0 (eC (.int 0)) (aa0 (eC (.int 3)) (aa0 (eC (.str "the most of a want")) aNil))))))
  (bd0 (eFn (Z0 C) (aa0 (e2 φIx (bVar 3) (eC (.int 0))) (aa0 (eC (.int 0)) (aa0 (e2 φIx (bVar 3) (eC (.int 1))) (aa0 (eC (.str "the least of a want")) aNil)))))))))))
def Z4 (C:Addr):List T->Option (Bool × T):=fnT jl0 2 (Ya0 C)
abbrev Xa0:Stmt:=top 29
def zb0:List Str:=["some", "names"]
def wh0:List Str:=["some", "names"]
def qb0 (C:Addr):En->Option Fl:=(sRet false (ay0 bw0 (aa0 (ba0 1 (iLst (eVar 0)) (aq0 0) bu0 (eBM dc0 (bVar 2) (aa0 (bVar 0) aNil))) aNil)))
def Z2 (C:Addr):List T->Option (Bool × T):=fnT zb0 2 (qb0 C)
abbrev Q2:Stmt:=bh0 (top 31) 0
def W0:List Str:=["self", "soils", "top", "crops", "wants", "names"]
def jb0:List Str:=["self", "soils", "top", "crops", "wants"]
def kb0 (C:Addr):En->Option Fl:=(sSeq (bd0 (eFn (X3 C) (aa0 (eVar 1) (aa0 (eVar 2) aNil))))
  (sSeq (bd0 (eFn (v4 C) (aa0 (eVar 3) aNil)))
  (sSeq (sSet 5 (eFnF (X1 C) (aa0 (eVar 3) aNil)))
  (sSeq (bd0 (eFn (Z4 C) (aa0 (eVar 4) (aa0 (eVar 5) aNil))))
  (sSeq (cA0 C 0 "soils" (ay0 bw0 (aa0 (bVar 1) aNil)))
  (sSeq (cA0 C 0 "top" (eVar 2))
  (sSeq (cA0 C 0 "changes" (ay0 bw0 (aa0 (ba0 1 (iLst (eVar 3)) (aq0 0) bu0 (e2 φIx (bVar 0) (eC (.int 1)))) aNil)))
  (sSeq (cA0 C 0 "harvests" (ay0 bw0 (aa0 (ba0 1 (iLst (eVar 3)) (aq0 0) bu0 (e2 φIx (bVar 0) (eC (.int 2)))) aNil)))
  (sSeq (cA0 C 0 "gaps" (ay0 bw0 (aa0 (ba0 1 (iLst (eVar 3)) (aq0 0) bu0 (e2 φIx (bVar 0) (eC (.int 3)))) aNil)))
  (sSeq (cA0 C 0 "bars" (ay0 bw0 (aa0 (ba0 1 (iLst (eVar 3)) (aq0 0) bu0 (eFn (Z2 C) (aa0 (e2 φIx (bVar 0) (eC (.int 4))) (aa0 (eVar 6) aNil)))) aNil)))
  (sSeq (cA0 C 0 "wants" (ay0 bw0 (aa0 (ba0 2 (hM0 (eVar 4)) (cu0 0 1) bu0 (eTup (aa0 (eBM dc0 (bVar 7) (aa0 (bVar 0) aNil)) (aa0 (e2 φIx (bVar 1) (eC (.int 0))) (aa0 (e2 φIx (bVar 1) (eC (.int 1))) aNil))))) aNil)))
  (cA0 C 0 "depth" (ay0 kx0 (aa0 (eC (.int 1)) (aa0 (ay0 φMax (aa0 (eFld C "gaps" (bVar 0)) aNil)) aNil)))))))))))))))
def Q4 (C:Addr):List T->Option (List (Str × T)):=fnI C W0 5 (kb0 C)
abbrev wb0:Stmt:=bh0 (top 31) 1
def vb0:List Str:=["self"]
def yb0:List Str:=["self"]
def xb0 (C:Addr):En->Option Fl:=(sRet false (ay0 bw0 (aa0 (ba0 1 (iTpl (eFld C "soils" (bVar 0))) (aq0 0) bu0 (eTup (aa0 (eVar 0) (aa0 (eTup aNil) aNil)))) aNil)))
def V7 (C:Addr):List T->Option (Bool × T):=fnT vb0 1 (xb0 C)
abbrev vh0:Stmt:=bh0 (top 31) 6
def kl0:List Str:=["self", "soil", "stood", "crop"]
def yh0:List Str:=["self", "soil", "stood", "crop"]
def hb0 (C:Addr):En->Option Fl:=(sSeq (sIf (qB (e2 φLt (e2 φAdd (bVar 1) (e2 φIx (eFld C "changes" (bVar 0)) (bVar 3))) (eC (.int 0)))) (sRet false (eC (.bl false))) sNx)
  (sSeq (sIf (qB (e2 (φIn false) (bVar 3) (eSlT (bVar 2) (bk0 none) (bk0 (some (e2 φIx (eFld C "gaps" (bVar 0)) (bVar 3))))))) (sRet false (eC (.bl false))) sNx)
  (sRet false (eOr (e2 φEq (ay0 φLen (aa0 (bVar 2) aNil)) (eC (.int 0))) (e2 (φIn true) (e2 φIx (bVar 2) (eC (.int 0))) (e2 φIx (eFld C "bars" (bVar 0)) (bVar 3)))))))
def J4 (C:Addr):List T->Option (Bool × T):=fnT kl0 4 (hb0 C)
abbrev Zb0:Stmt:=bh0 (top 31) 5
def Qb0:List Str:=["self", "soil", "stood"]
def xh0:List Str:=["self", "soil", "stood"]
def Jb0 (C:Addr):En->Option Fl:=(sRet true (ba0 1 (aY0 (aa0 (ay0 φLen (aa0 (eFld C "changes" (bVar 0)) aNil)) aNil)) (aq0 0) (qB (dX0 C "lets" (J4 C) (eVar 1) (aa0 (eVar 2) (aa0 (eVar 3) (aa0 (eVar 0) aNil))))) (eVar 0)))
def K4 (C:Addr):List T->Option (Bool × T):=fnT Qb0 3 (Jb0 C)
abbrev hh0:Stmt:=bh0 (top 31) 7
def wl0:List Str:=["self", "planting", "crop", "least", "most"]
def Zh0:List Str:=["self", "planting"]
def Kb0 (C:Addr):En->Option Fl:=(sSeq (sFor (iTpl (eFld C "wants" (bVar 0))) (jC0 2 3 4) (sIf (qNot (qB (dn0 φLe φLe (bVar 3) (eBM do0 (bVar 1) (aa0 (bVar 2) aNil)) (bVar 4)))) (sRet false (eC (.bl false))) sNx))
  (sRet false (eC (.bl true))))
def W4 (C:Addr):List T->Option (Bool × T):=fnT wl0 2 (Kb0 C)
abbrev Wb0:Stmt:=top 30
def Vb0:List Str:=["rows", "crops", "longer", "row"]
def Qh0:List Str:=["rows", "crops"]
def Yb0 (C:Addr):En->Option Fl:=(sSeq (cT0 2 (eLst aNil))
  (sSeq (sFor (iLst (eVar 0)) (aq0 3) (sExt 2 (ba0 1 (iLst (eVar 1)) (aq0 0) bu0 (e2 cL0 (bVar 4) (eTup (aa0 (eVar 0) aNil))))))
  (fv0 2)))
def V4 (C:Addr):List T->Option (Bool × T):=fnT Vb0 2 (Yb0 C)
abbrev Xb0:Stmt:=bh0 (top 31) 2
def zc0:List Str:=["self", "state", "rows", "soil", "stood"]
def qc0:List Str:=["self", "state"]
def jc0 (C:Addr):En->Option Fl:=(sSeq (sSet 2 (eLst (aa0 (eTup aNil) aNil)))
  (sSeq (sFor (iTpl (eVar 1)) (cu0 3 4) (sSet 2 (eFnF (V4 C) (aa0 (eVar 2) (aa0 (fV0 C "crops_for" (K4 C) (eVar 0) (aa0 (eVar 3) (aa0 (eVar 4) aNil))) aNil)))))
  (sRet true (ba0 1 (iLst (eVar 2)) (aq0 0) (qB (dX0 C "meets_wants" (W4 C) (eVar 1) (aa0 (eVar 0) aNil))) (eVar 0)))))
def Y7 (C:Addr):List T->Option (Bool × T):=fnT zc0 2 (jc0 C)
abbrev Jh0:Stmt:=bh0 (top 31) 10
def vl0:List Str:=["self", "soil", "stood", "crop", "row"]
def Kh0:List Str:=["self", "soil", "stood", "crop"]
def kc0 (C:Addr):En->Option Fl:=(sSeq (sSet 4 (e2 cL0 (eTup (aa0 (eVar 3) aNil)) (bVar 2)))
  (sRet false (eTup (aa0 (ay0 ed0 (aa0 (eFld C "top" (bVar 0)) (aa0 (e2 φAdd (bVar 1) (e2 φIx (eFld C "changes" (bVar 0)) (bVar 3))) aNil))) (aa0 (eSlT (bVar 4) (bk0 none) (bk0 (some (eFld C "depth" (bVar 0))))) aNil)))))
def Y4 (C:Addr):List T->Option (Bool × T):=fnT vl0 4 (kc0 C)
abbrev wc0:Stmt:=bh0 (top 31) 9
def X7:List Str:=["self", "state", "planting"]
def vc0:List Str:=["self", "state", "planting"]
def yc0 (C:Addr):En->Option Fl:=(sRet false (ay0 bw0 (aa0 (ba0 2 (oy0 (aa0 (bVar 1) (aa0 (bVar 2) aNil))) (cu0 0 1) bu0 (dX0 C "bed_behind" (Y4 C) (eVar 2) (aa0 (e2 φIx (bVar 0) (eC (.int 0))) (aa0 (e2 φIx (bVar 0) (eC (.int 1))) (aa0 (eVar 1) aNil))))) aNil)))
def q8 (C:Addr):List T->Option (Bool × T):=fnT X7 3 (yc0 C)
abbrev Wh0:Stmt:=top 33
def yl0:List Str:=["script", "k"]
def Vh0:List Str:=["script", "k"]
def xc0 (C:Addr):En->Option Fl:=(sSeq (sIf (qB (e2 φLt (bVar 1) (ay0 φLen (aa0 (bVar 0) aNil)))) (sRet false (e2 φIx (bVar 0) (bVar 1))) sNx)
  (sRet false (eC (.int 0))))
def X4 (C:Addr):List T->Option (Bool × T):=fnT yl0 2 (xc0 C)
abbrev Yh0:Stmt:=top 34
def xl0:List Str:=["script", "k"]
def Xh0:List Str:=["script", "k"]
def Zc0 (C:Addr):En->Option Fl:=(sRet false (e2 φMod (e2 φMul (e2 φAdd (eFn (X4 C) (aa0 (eVar 0) (aa0 (e2 φMod (bVar 1) (eC (.int 61))) aNil))) (e2 φMul (eC (.int 7919)) (bVar 1))) (e2 φAdd (eC (.int 48271)) (e2 φMul (eC (.int 2)) (bVar 1)))) (eC (.int 2147483647))))
def j0 (C:Addr):List T->Option (Bool × T):=fnT xl0 2 (Zc0 C)
abbrev zi0:Stmt:=top 39
def Zl0:List Str:=["script", "most", "cell"]
def Qc0:List Str:=["script", "most"]
def Jc0 (C:Addr):En->Option Fl:=(sSeq (sSet 2 (eFn (j0 C) (aa0 (eVar 0) (aa0 (eC (.int 8)) aNil))))
  (sSeq (sIf (qB (e2 φEq (bVar 1) (eC (.int 3)))) (sRet false (e2 φAdd (eC (.int 1)) (e2 φMod (bVar 2) (eC (.int 3))))) sNx)
  (sSeq (sIf (qAnd (qB (e2 φEq (bVar 1) (eC (.int 2)))) (qB (e2 φEq (e2 φMod (bVar 2) (eC (.int 8))) (eC (.int 7))))) (sRet false (eC (.int 3))) sNx)
  (sRet false (e2 φAdd (eC (.int 1)) (e2 φMod (bVar 2) (eC (.int 2))))))))
def j8 (C:Addr):List T->Option (Bool × T):=fnT Zl0 2 (Jc0 C)
abbrev qi0:Stmt:=top 36
def Ql0:List Str:=["script", "k", "names", "gaps", "bars", "j", "harvest", "change"]
def ji0:List Str:=["script", "k", "names", "gaps"]
def Kc0 (C:Addr):En->Option Fl:=(sSeq (cT0 4 (eLst aNil))
  (sSeq (sFor (aY0 (aa0 (ay0 φLen (aa0 (bVar 2) aNil)) aNil)) (aq0 5) (sIf (qB (e2 φEq (e2 φMod (eFn (j0 C) (aa0 (eVar 0) (aa0 (e2 φAdd (e2 φAdd (eC (.int 20)) (e2 φMul (eC (.int 10)) (bVar 1))) (bVar 5)) aNil))) (eC (.int 5))) (eC (.int 1)))) (sApp 4 (e2 φIx (bVar 2) (bVar 5))) sNx))
  (sSeq (sSet 6 (e2 φMod (eFn (j0 C) (aa0 (eVar 0) (aa0 (e2 φAdd (eC (.int 26)) (e2 φMul (eC (.int 10)) (bVar 1))) aNil))) (e2 φIx (eLst (aa0 (eC (.int 10)) (aa0 (eC (.int 3)) (aa0 (eC (.int 1001)) aNil)))) (e2 φMod (eFn (j0 C) (aa0 (eVar 0) (aa0 (eC (.int 9)) aNil))) (eC (.int 3))))))
  (sSeq (sSet 7 (e2 φSub (e2 φMod (eFn (j0 C) (aa0 (eVar 0) (aa0 (e2 φAdd (eC (.int 27)) (e2 φMul (eC (.int 10)) (bVar 1))) aNil))) (eC (.int 7))) (eC (.int 3))))
  (λε=>(sRet false (eTup (aa0 (e2 φIx (bVar 2) (bVar 1)) (aa0 (eVar 7) (aa0 (eVar 6) (aa0 (e2 φMod (eFn (j0 C) (aa0 (eVar 0) (aa0 (e2 φAdd (eC (.int 28)) (e2 φMul (eC (.int 10)) (bVar 1))) aNil))) (e2 φAdd (bVar 3) (eC (.int 1)))) (aa0 (eVar 4) aNil))))))) (frz 4 ε))))))
def j5 (C:Addr):List T->Option (Bool × T):=fnT Ql0 4 (Kc0 C)
abbrev ki0:Stmt:=top 37
def Jl0:List Str:=["script", "names", "beds", "wants", "k", "cell", "least"]
def wi0:List Str:=["script", "names", "beds"]
def Wc0 (C:Addr):En->Option Fl:=(sSeq (cT0 3 eDct0)
  (sSeq (sFor (aY0 (aa0 (ay0 φLen (aa0 (bVar 1) aNil)) aNil)) (aq0 4) (sSeq (sSet 5 (eFn (j0 C) (aa0 (eVar 0) (aa0 (e2 φAdd (eC (.int 80)) (bVar 4)) aNil))))
  (sIf (qB (e2 φEq (e2 φMod (bVar 5) (eC (.int 5))) (eC (.int 1)))) (sSeq (sSet 6 (e2 φIx (eLst (aa0 (eC (.int 0)) (aa0 (eC (.int 0)) (aa0 (eC (.int 1)) (aa0 (eVar 2) aNil))))) (e2 φMod (e2 φDiv (bVar 5) (eC (.int 5))) (eC (.int 4)))))
  (sDPut 3 (e2 φIx (bVar 1) (bVar 4)) (eTup (aa0 (eVar 6) (aa0 (ay0 ed0 (aa0 (eC (.int 3)) (aa0 (e2 φAdd (bVar 6) (e2 φMod (e2 φDiv (bVar 5) (eC (.int 20))) (e2 φAdd (bVar 2) (eC (.int 1))))) aNil))) aNil))))) sNx)))
  (fv0 3)))
def v8 (C:Addr):List T->Option (Bool × T):=fnT Jl0 3 (Wc0 C)
abbrev y8:Stmt:=top 38
def Z5:List Str:=["script", "beds", "mode", "top", "many", "gaps", "turn", "names", "crops", "soils"]
def Vc0:List Str:=["script", "beds"]
def Yc0 (C:Addr):En->Option Fl:=(sSeq (sSet 2 (e2 φMod (eFn (j0 C) (aa0 (eVar 0) (aa0 (eC (.int 1)) aNil))) (eC (.int 8))))
  (sSeq (sSet 3 (e2 φIx (eLst (aa0 (eC (.int 1)) (aa0 (eC (.int 2)) (aa0 (eC (.int 3)) (aa0 (eC (.int 3)) (aa0 (eC (.int 2)) (aa0 (eC (.int 5)) (aa0 (eC (.int 4)) (aa0 (eC (.int 1)) aNil))))))))) (bVar 2)))
  (sSeq (sSet 4 (e2 φIx (eLst (aa0 (eC (.int 4)) (aa0 (eC (.int 3)) (aa0 (eC (.int 4)) (aa0 (eC (.int 3)) (aa0 (eC (.int 2)) (aa0 (eC (.int 2)) (aa0 (eC (.int 2)) (aa0 (eC (.int 3)) aNil))))))))) (bVar 2)))
  (sSeq (sSet 5 (e2 φIx (eLst (aa0 (eC (.int 1)) (aa0 (eC (.int 2)) (aa0 (eC (.int 2)) (aa0 (eC (.int 1)) (aa0 (eC (.int 3)) (aa0 (eC (.int 2)) (aa0 (eC (.int 3)) (aa0 (eC (.int 3)) aNil))))))))) (bVar 2)))
  (sSeq (sIf (qB (e2 φGt (bVar 1) (eC (.int 1)))) (sSeq (sSet 3 (eC (.int 1)))
  (sSeq (sSet 4 (e2 φAdd (eC (.int 1)) (e2 φMod (eFn (j0 C) (aa0 (eVar 0) (aa0 (eC (.int 2)) aNil))) (eC (.int 2)))))
  (sSet 5 (e2 φMod (eFn (j0 C) (aa0 (eVar 0) (aa0 (eC (.int 4)) aNil))) (eC (.int 2)))))) sNx)
  (sSeq (sSet 6 (e2 φMod (eFn (j0 C) (aa0 (eVar 0) (aa0 (eC (.int 3)) aNil))) (eC (.int 5))))
  (sSeq (sSet 7 (eLst (aa0 (eC (.str "bean")) (aa0 (eC (.str "rye")) (aa0 (eC (.str "kale")) (aa0 (eC (.str "oat")) (aa0 (eC (.str "pea")) aNil)))))))
  (sSeq (sSet 7 (eSlL (e2 gr0 (eSlL (bVar 7) (bk0 (some (bVar 6))) (bk0 none)) (eSlL (bVar 7) (bk0 none) (bk0 (some (bVar 6))))) (bk0 none) (bk0 (some (bVar 4)))))
  (sSeq (sSet 8 (ba0 1 (aY0 (aa0 (bVar 4) aNil)) (aq0 0) bu0 (eFn (j5 C) (aa0 (eVar 1) (aa0 (eVar 0) (aa0 (eVar 8) (aa0 (eVar 6) aNil)))))))
  (sSeq (sSet 9 (ba0 1 (aY0 (aa0 (bVar 1) aNil)) (aq0 0) bu0 (e2 φMod (eFn (j0 C) (aa0 (eVar 1) (aa0 (e2 φAdd (eC (.int 5)) (bVar 0)) aNil))) (e2 φAdd (bVar 4) (eC (.int 1))))))
  (sRet false (eTup (aa0 (eVar 9) (aa0 (eVar 3) (aa0 (eVar 8) (aa0 (eFnF (v8 C) (aa0 (eVar 0) (aa0 (eVar 7) (aa0 (eVar 1) aNil)))) aNil))))))))))))))))
def Z8 (C:Addr):List T->Option (Bool × T):=fnT Z5 2 (Yc0 C)
abbrev Xc0:Stmt:=top 40
def zd0:List Str:=["plot", "crops"]
def qd0:List Str:=["plot"]
def jd0 (C:Addr):En->Option Fl:=(sSeq (sSet 1 (ba0 1 (iLst (e2 φIx (bVar 0) (eC (.int 2)))) (aq0 0) bu0 (e2 cL0 (eSlT (bVar 0) (bk0 none) (bk0 (some (eC (.int 4))))) (eTup (aa0 (ay0 gi0 (aa0 (e2 φIx (bVar 0) (eC (.int 4))) aNil)) aNil)))))
  (sRet true (eLst (aa0 (ay0 gi0 (aa0 (e2 φIx (bVar 0) (eC (.int 0))) aNil)) (aa0 (e2 φIx (bVar 0) (eC (.int 1))) (aa0 (eVar 1) (aa0 (ay0 lh0 (aa0 (e2 φIx (bVar 0) (eC (.int 3))) aNil)) aNil)))))))
def Q8 (C:Addr):List T->Option (Bool × T):=fnT zd0 1 (jd0 C)
abbrev vi0:Stmt:=top 42
def Kl0:List Str:=["plot", "bed", "number", "crop", "k"]
def yi0:List Str:=["plot", "bed", "number"]
def kd0 (C:Addr):En->Option Fl:=(sSeq (sSet 3 (e2 φIx (e2 φIx (bVar 0) (eC (.int 2))) (bVar 2)))
  (sSeq (sIf (qB (e2 φLt (e2 φAdd (e2 φIx (bVar 1) (eC (.int 0))) (e2 φIx (bVar 3) (eC (.int 1)))) (eC (.int 0)))) (sRet false (eC (.bl false))) sNx)
  (sSeq (sFor (aY0 (aa0 (ay0 ed0 (aa0 (e2 φIx (bVar 3) (eC (.int 3))) (aa0 (ay0 φLen (aa0 (e2 φIx (bVar 1) (eC (.int 1))) aNil)) aNil))) aNil)) (aq0 4) (sIf (qB (e2 φEq (e2 φIx (e2 φIx (bVar 1) (eC (.int 1))) (bVar 4)) (bVar 2))) (sRet false (eC (.bl false))) sNx))
  (sRet false (eOr (e2 φEq (e2 φIx (bVar 1) (eC (.int 1))) (eTup aNil)) (e2 (φIn true) (e2 φIx (e2 φIx (e2 φIx (bVar 0) (eC (.int 2))) (e2 φIx (e2 φIx (bVar 1) (eC (.int 1))) (eC (.int 0)))) (eC (.int 0))) (e2 φIx (bVar 3) (eC (.int 4)))))))))
def J2 (C:Addr):List T->Option (Bool × T):=fnT Kl0 3 (kd0 C)
abbrev xi0:Stmt:=top 44
def Wl0:List Str:=["rows", "numbers", "longer", "row", "number"]
def hi0:List Str:=["rows", "numbers"]
def wd0 (C:Addr):En->Option Fl:=(sSeq (cT0 2 (eLst aNil))
  (sSeq (sFor (iLst (eVar 0)) (aq0 3) (sFor (iLst (eVar 1)) (aq0 4) (sApp 2 (e2 cL0 (bVar 3) (eTup (aa0 (eVar 4) aNil))))))
  (fv0 2)))
def Q5 (C:Addr):List T->Option (Bool × T):=fnT Wl0 2 (wd0 C)
abbrev vd0:Stmt:=top 43
def yd0:List Str:=["plot", "planting", "names", "name"]
def Zi0:List Str:=["plot", "planting"]
def xd0 (C:Addr):En->Option Fl:=(sSeq (sSet 2 (ba0 1 (iTpl (eVar 1)) (aq0 0) bu0 (e2 φIx (e2 φIx (e2 φIx (bVar 1) (eC (.int 2))) (bVar 0)) (eC (.int 0)))))
  (sSeq (sFor (iKey (e2 φIx (bVar 0) (eC (.int 3)))) (aq0 3) (sIf (qOr (qB (e2 φLt (eBM dT0 (bVar 2) (aa0 (bVar 3) aNil)) (e2 φIx (e2 ip0 (e2 φIx (bVar 0) (eC (.int 3))) (bVar 3)) (eC (.int 0))))) (qB (e2 φGt (eBM dT0 (bVar 2) (aa0 (bVar 3) aNil)) (e2 φIx (e2 ip0 (e2 φIx (bVar 0) (eC (.int 3))) (bVar 3)) (eC (.int 1)))))) (sRet false (eC (.bl false))) sNx))
  (sRet false (eC (.bl true)))))
def J5 (C:Addr):List T->Option (Bool × T):=fnT yd0 2 (xd0 C)
abbrev J8:Stmt:=top 45
def K5:List Str:=["plot", "state", "rows", "bed"]
def hd0:List Str:=["plot", "state"]
def Zd0 (C:Addr):En->Option Fl:=(sSeq (sSet 2 (eLst (aa0 (eTup aNil) aNil)))
  (sSeq (sFor (iTpl (eVar 1)) (aq0 3) (sSet 2 (eFnF (Q5 C) (aa0 (eVar 2) (aa0 (ba0 1 (aY0 (aa0 (ay0 φLen (aa0 (e2 φIx (bVar 0) (eC (.int 2))) aNil)) aNil)) (aq0 0) (qB (eFn (J2 C) (aa0 (eVar 1) (aa0 (eVar 4) (aa0 (eVar 0) aNil))))) (eVar 0)) aNil)))))
  (sRet true (ba0 1 (iLst (eVar 2)) (aq0 0) (qB (eFn (J5 C) (aa0 (eVar 1) (aa0 (eVar 0) aNil)))) (eVar 0)))))
def V2 (C:Addr):List T->Option (Bool × T):=fnT K5 2 (Zd0 C)
abbrev Qd0:Stmt:=top 41
def Jd0:List Str:=["plot"]
def Qi0:List Str:=["plot"]
def Kd0 (C:Addr):En->Option Fl:=(sRet false (ay0 φMax (aa0 (e2 gr0 (eLst (aa0 (eC (.int 1)) aNil)) (ba0 1 (iLst (e2 φIx (bVar 0) (eC (.int 2)))) (aq0 0) bu0 (e2 φIx (bVar 0) (eC (.int 3))))) aNil)))
def W5 (C:Addr):List T->Option (Bool × T):=fnT Jd0 1 (Kd0 C)
abbrev Ji0:Stmt:=top 46
def Vl0:List Str:=["plot", "state", "planting", "beds", "k", "soil"]
def Wd0:List Str:=["plot", "state", "planting"]
def Vd0 (C:Addr):En->Option Fl:=(sSeq (cT0 3 (eLst aNil))
  (sSeq (sFor (aY0 (aa0 (ay0 φLen (aa0 (bVar 1) aNil)) aNil)) (aq0 4) (sSeq (sSet 5 (ay0 ed0 (aa0 (e2 φIx (bVar 0) (eC (.int 1))) (aa0 (e2 φAdd (e2 φIx (e2 φIx (bVar 1) (bVar 4)) (eC (.int 0))) (e2 φIx (e2 φIx (e2 φIx (bVar 0) (eC (.int 2))) (e2 φIx (bVar 2) (bVar 4))) (eC (.int 1)))) aNil))))
  (sApp 3 (eTup (aa0 (eVar 5) (aa0 (eSlT (e2 cL0 (eTup (aa0 (e2 φIx (bVar 2) (bVar 4)) aNil)) (e2 φIx (e2 φIx (bVar 1) (bVar 4)) (eC (.int 1)))) (bk0 none) (bk0 (some (eFn (W5 C) (aa0 (eVar 0) aNil))))) aNil))))))
  (sRet false (ay0 bw0 (aa0 (bVar 3) aNil)))))
def Y2 (C:Addr):List T->Option (Bool × T):=fnT Vl0 3 (Vd0 C)
abbrev Yd0:Stmt:=top 47
def Xd0:List Str:=["plot"]
def K8:List Str:=["plot"]
def ze0 (C:Addr):En->Option Fl:=(sRet false (ay0 bw0 (aa0 (ba0 1 (iLst (e2 φIx (bVar 0) (eC (.int 0)))) (aq0 0) bu0 (eTup (aa0 (eVar 0) (aa0 (eTup aNil) aNil)))) aNil)))
def Q3 (C:Addr):List T->Option (Bool × T):=fnT Xd0 1 (ze0 C)
abbrev Ki0:Stmt:=top 50
def Yl0:List Str:=["plot", "state", "plan", "planting"]
def qe0:List Str:=["plot", "state", "plan"]
def je0 (C:Addr):En->Option Fl:=(sSeq (sFor (iLst (eVar 2)) (aq0 3) (sSeq (sIf (qOr (qNot (qB (eIs "tuple" (bVar 3)))) (qB (e2 φNiD (bVar 3) (eFnF (V2 C) (aa0 (eVar 0) (aa0 (eVar 1) aNil)))))) (sRet false (eC .non)) sNx)
  (sSet 1 (eFn (Y2 C) (aa0 (eVar 0) (aa0 (eVar 1) (aa0 (eVar 3) aNil)))))))
  (sRet false (eVar 1)))
def X2 (C:Addr):List T->Option (Bool × T):=fnT Yl0 3 (je0 C)
abbrev Wi0:Stmt:=top 35
def Xl0:List Str:=["found"]
def ke0:List Str:=["found"]
def Vi0 (C:Addr):En->Option Fl:=(sRet false (eAnd (eIs "int" (bVar 0)) (eNot (eIs "bool" (bVar 0)))))
def V1 (C:Addr):List T->Option (Bool × T):=fnT Xl0 1 (Vi0 C)
abbrev we0:Stmt:=top 51
def ve0:List Str:=["plan", "planting"]
def ye0:List Str:=["plan"]
def xe0 (C:Addr):En->Option Fl:=(sSeq (sIf (qNot (qB (eIs "list" (bVar 0)))) (sRet false (eC (.bl false))) sNx)
  (sSeq (sFor (iLst (eVar 0)) (aq0 1) (sIf (qOr (qNot (qB (eIs "tuple" (bVar 1)))) (qB (e2 (φIn false) (eC (.bl false)) (ba0 1 (iTpl (eVar 1)) (aq0 0) bu0 (eFn (V1 C) (aa0 (eVar 0) aNil)))))) (sRet false (eC (.bl false))) sNx))
  (sRet false (eC (.bl true)))))
def j3 (C:Addr):List T->Option (Bool × T):=fnT ve0 1 (xe0 C)
abbrev Yi0:Stmt:=top 53
def zm0:List Str:=["plot", "told", "state"]
def he0:List Str:=["plot", "told"]
def Ze0 (C:Addr):En->Option Fl:=(sSeq (sIf (qOr (qNot (qB (eIs "tuple" (bVar 1)))) (qOr (qB (e2 φNe (ay0 φLen (aa0 (bVar 1) aNil)) (eC (.int 2)))) (qOr (qNot (qB (eFn (j3 C) (aa0 (e2 φIx (bVar 1) (eC (.int 0))) aNil)))) (qNot (qB (eFn (j3 C) (aa0 (e2 φIx (bVar 1) (eC (.int 1))) aNil))))))) (sRet false (eC (.bl false))) sNx)
  (sSeq (sSet 2 (eFn (X2 C) (aa0 (eVar 0) (aa0 (eFn (Q3 C) (aa0 (eVar 0) aNil)) (aa0 (e2 φIx (bVar 1) (eC (.int 0))) aNil)))))
  (sSeq (sIf (qOr (qB (e2 φIsN (bVar 2) (eC .non))) (qB (e2 φEq (ay0 φLen (aa0 (e2 φIx (bVar 1) (eC (.int 1))) aNil)) (eC (.int 0))))) (sRet false (eC (.bl false))) sNx)
  (sRet false (eAnd (e2 φEq (eFn (X2 C) (aa0 (eVar 0) (aa0 (eVar 2) (aa0 (e2 φIx (bVar 1) (eC (.int 1))) aNil)))) (bVar 2)) (e2 φEq (eFn (X2 C) (aa0 (eVar 0) (aa0 (eVar 2) (aa0 (e2 gr0 (e2 φIx (bVar 1) (eC (.int 1))) (e2 φIx (bVar 1) (eC (.int 1)))) aNil)))) (bVar 2)))))))
def W8 (C:Addr):List T->Option (Bool × T):=fnT zm0 2 (Ze0 C)
abbrev Qe0:Stmt:=bh0 (top 2) 0
def V8:List Str:=["self", "garden"]
theorem qm0:FnScope ["self", "garden"] ["self", "garden"] (ad0 Qe0):=by simp_all_arith
abbrev Je0:Stmt:=bh0 (top 2) 1
def V5:List Str:=["self", "state", "came"]
theorem jm0:FnScope ["self", "state", "came"] ["self", "state", "came"] (ad0 Je0):=by simp_all_arith
abbrev Ke0:Stmt:=bh0 (top 2) 2
def Y5:List Str:=["self", "number"]
theorem km0:FnScope ["self", "number"] ["self", "number"] (ad0 Ke0):=by simp_all_arith
abbrev We0:Stmt:=bh0 (top 2) 3
def Y8:List Str:=["self", "number"]
theorem wm0:FnScope ["self", "number", "state", "moves", "planting", "later"] ["self", "number"] (ad0 We0):=by simp_all_arith
abbrev Ve0:Stmt:=bh0 (top 4) 0
def J3:List Str:=["self", "garden"]
theorem vm0:FnScope ["self", "garden"] ["self", "garden"] (ad0 Ve0):=by simp_all_arith
abbrev Ye0:Stmt:=bh0 (top 4) 1
def X5:List Str:=["self"]
theorem ym0:FnScope ["self"] ["self"] (ad0 Ye0):=by simp_all_arith
abbrev Xe0:Stmt:=bh0 (top 4) 2
def j6:List Str:=["self"]
theorem xm0:FnScope ["self"] ["self"] (ad0 Xe0):=by simp_all_arith
abbrev X8:Stmt:=bh0 (top 4) 3
def v3:List Str:=["self", "many"]
theorem Xi0:FnScope ["self", "many"] ["self", "many"] (ad0 X8):=by simp_all_arith
abbrev zf0:Stmt:=bh0 (top 4) 4
def w6:List Str:=["self", "many"]
theorem hm0:FnScope ["self", "many", "planting", "later"] ["self", "many"] (ad0 zf0):=by simp_all_arith
abbrev qf0:Stmt:=bh0 (top 4) 5
def q9:List Str:=["self", "number", "many"]
theorem Zm0:FnScope ["self", "number", "many"] ["self", "number", "many"] (ad0 qf0):=by simp_all_arith
abbrev j9:Stmt:=bh0 (top 4) 6
def jf0:List Str:=["self", "number", "moves"]
def y6:List Str:=["self"]
theorem Qm0:FnScope ["self", "number", "moves"] ["self"] (ad0 j9):=by simp_all_arith
abbrev kf0:Stmt:=top 5
def Z6:List Str:=["trail", "many"]
theorem Jm0:FnScope ["trail", "many"] ["trail", "many"] (ad0 kf0):=by simp_all_arith
abbrev wf0:Stmt:=top 7
def w9:List Str:=["garden", "many"]
theorem Km0:FnScope ["garden", "many"] ["garden", "many"] (ad0 wf0):=by simp_all_arith
abbrev vf0:Stmt:=top 6
def Q6:List Str:=["trail"]
theorem Wm0:FnScope ["trail", "places"] ["trail"] (ad0 vf0):=by simp_all_arith
abbrev yf0:Stmt:=top 8
def v9:List Str:=["garden"]
theorem Vm0:FnScope ["garden", "trail", "most"] ["garden"] (ad0 yf0):=by simp_all_arith
abbrev xf0:Stmt:=top 9
def y9:List Str:=["garden"]
theorem Ym0:FnScope ["garden", "trail", "place"] ["garden"] (ad0 xf0):=by simp_all_arith
abbrev J6:Stmt:=top 49
def x9:List Str:=["plot", "found", "queue", "state"]
def Z9:List Str:=["plot"]
theorem Xm0:FnScope ["plot", "found", "queue", "state"] ["plot"] (ad0 J6):=by simp_all_arith
abbrev Q9:Stmt:=top 52
def zj0:List Str:=["states", "many", "layers", "state", "k", "layer"]
def J9:List Str:=["states", "many"]
theorem zn0:FnScope ["states", "many", "layers", "state", "k", "layer"] ["states", "many"] (ad0 Q9):=by simp_all_arith
abbrev X0:Stmt:=top 54
def hf0:List Str:=["script", "plot", "handed", "garden", "start", "states", "layers", "most", "told", "found"]
def Zf0:List Str:=["script"]
theorem qn0:FnScope ["script", "plot", "handed", "garden", "start", "states", "layers", "most", "told", "found"] ["script"] (ad0 X0):=by simp_all_arith
structure Txt (K:Aa3)(mg:Str->Option Value)(C CWeb:Addr):Prop where
 cl_Garden:Cls K C
 qj0:NoAttr K C "bars"
 K9:NoAttr K C "changes"
 jj0:NoAttr K C "depth"
 Qf0:NoAttr K C "gaps"
 jn0:NoAttr K C "harvests"
 kj0:NoAttr K C "soils"
 wj0:NoAttr K C "top"
 vj0:NoAttr K C "wants"
 cl_Web:Cls K CWeb
 Jf0:NoAttr K CWeb "garden"
 W9:NoAttr K CWeb "states"
 K6:NoAttr K CWeb "numbers"
 yj0:NoAttr K CWeb "came"
 W6:NoAttr K CWeb "moves"
 xj0:mg "bool" =none
 hj0:mg "dict" =none
 Zj0:mg "int" =none
 J0:mg "isinstance" =none
 x0:mg "len" =none
 K3:mg "list" =none
 V6:mg "max" =none
 V9:mg "min" =none
 Z1:mg "range" =none
 kn0:mg "set" =none
 wn0:mg "str" =none
 Q0:mg "tuple" =none
 vn0:mg "zip" =none
 yn0:∃t,mg "MOST_BEDS" =some (.int 3 t)
 Qj0:∃t,mg "MOST_CHANGE" =some (.int 3 t)
 xn0:∃t,mg "MOST_CROPS" =some (.int 5 t)
 hn0:∃t,mg "MOST_GAP" =some (.int 3 t)
 Zn0:∃t,mg "MOST_HARVEST" =some (.int 1000 t)
 Qn0:∃t,mg "MOST_TOP" =some (.int 5 t)
 Jn0:∃t,mg "MOST_WANTED" =some (.int 3 t)
structure TxtTrail (K:Aa3)(CTrail:Addr):Prop where
 cl:Cls K CTrail
 Kf0:NoAttr K CTrail "web"
 W3:NoAttr K CTrail "ends"
 V3:NoAttr K CTrail "passed"
 Q1:NoAttr K CTrail "years"
def bv0 (K:Aa3)(mg:Str->Option Value)(x qual:Str)(st:Stmt)(ps:List Str):Prop:=∃f fd,Fun K x qual st f fd/\mg x=some (.ref f)/\PySem.W.keepIn K (.ref f)=true/\Binds K fd ps []
def cR0 (K:Aa3)(C:Addr)(x qual:Str)(st:Stmt)(ps:List Str):Prop:=∃f fd,Fun K x qual st f fd/\Meth K C x f/\Binds K fd ps []
def of0 (K:Aa3)(mg:Str->Option Value)(C:Addr)(c qual:Str)(st:Stmt)(ps:List Str):Prop:=∃f fd,Fun K "__init__" qual st f fd/\Mk K C f/\mg c=some (.ref C)/\Binds K fd ps []
structure Ats0 (K:Aa3)(mg:Str->Option Value)(C:Addr):Prop where
 Kn0:bv0 K mg "is_within" "is_within" yg0 xg0
 Wn0:bv0 K mg "check_within" "check_within" hg0 Zg0
 Vn0:bv0 K mg "check_beds" "check_beds" Qg0 Jg0
 Yn0:bv0 K mg "check_crop" "check_crop" Kg0 Wg0
 Xn0:bv0 K mg "check_name" "check_name" Vg0 Yg0
 zo0:bv0 K mg "names_of" "names_of" Ja0 Xg0
 qo0:bv0 K mg "check_crops" "check_crops" zh0 qh0
 jo0:bv0 K mg "check_wants" "check_wants" jh0 kh0
 ko0:bv0 K mg "numbers_of" "numbers_of" Xa0 wh0
 wo0:of0 K mg C "Garden" "Garden.__init__" Q2 jb0
 vo0:cR0 K C "start" "Garden.start" wb0 yb0
 yo0:cR0 K C "lets" "Garden.lets" vh0 yh0
 xo0:cR0 K C "crops_for" "Garden.crops_for" Zb0 xh0
 ho0:cR0 K C "meets_wants" "Garden.meets_wants" hh0 Zh0
 Zo0:bv0 K mg "lengthened" "lengthened" Wb0 Qh0
 Qo0:cR0 K C "may" "Garden.may" Xb0 qc0
 Jo0:cR0 K C "bed_behind" "Garden.bed_behind" Jh0 Kh0
 Ko0:cR0 K C "beds_behind" "Garden.beds_behind" wc0 vc0
 Wo0:bv0 K mg "_law_cell_at" "_law_cell_at" Wh0 Vh0
 Vo0:bv0 K mg "_law_draw" "_law_draw" Yh0 Xh0
 Yo0:bv0 K mg "_law_beds" "_law_beds" zi0 Qc0
 Xo0:bv0 K mg "_law_crop" "_law_crop" qi0 ji0
 zp0:bv0 K mg "_law_wants" "_law_wants" ki0 wi0
 qp0:bv0 K mg "_law_garden" "_law_garden" y8 Vc0
 jp0:bv0 K mg "_law_handed" "_law_handed" Xc0 qd0
 kp0:bv0 K mg "_law_lets" "_law_lets" vi0 yi0
 wp0:bv0 K mg "_law_longer" "_law_longer" xi0 hi0
 vp0:bv0 K mg "_law_wanted" "_law_wanted" vd0 Zi0
 yp0:bv0 K mg "_law_may" "_law_may" J8 hd0
 xp0:bv0 K mg "_law_memory" "_law_memory" Qd0 Qi0
 Zp0:bv0 K mg "_law_behind" "_law_behind" Ji0 Wd0
 Qp0:bv0 K mg "_law_start" "_law_start" Yd0 K8
 Jp0:bv0 K mg "_law_gone" "_law_gone" Ki0 qe0
 Kp0:bv0 K mg "_law_whole" "_law_whole" Wi0 ke0
 Wp0:bv0 K mg "_law_numbers" "_law_numbers" we0 ye0
 Vp0:bv0 K mg "_law_round" "_law_round" Yi0 he0
theorem Yp0:FnScope ["value", "least", "most"] ["value", "least", "most"] (ad0 yg0):=by simp_all_arith
theorem Xp0:FnScope ["value", "least", "most", "what"] ["value", "least", "most", "what"] (ad0 hg0):=by simp_all_arith
theorem Jj0:FnScope ["soils", "top", "soil"] ["soils", "top"] (ad0 Qg0):=by simp_all_arith
theorem zq0:FnScope ["crop"] ["crop"] (ad0 Kg0):=by simp_all_arith
theorem qq0:FnScope ["name", "names"] ["name", "names"] (ad0 Vg0):=by simp_all_arith
theorem jq0:FnScope ["crops"] ["crops"] (ad0 Ja0):=by simp_all_arith
theorem Y6:FnScope ["crops", "crop", "names", "name"] ["crops"] (ad0 zh0):=by simp_all_arith
theorem Wf0:FnScope ["wants", "names", "name", "pair"] ["wants", "names"] (ad0 jh0):=by simp_all_arith
theorem kq0:FnScope ["some", "names"] ["some", "names"] (ad0 Xa0):=by simp_all_arith
theorem Kj0:FnScope ["self", "soils", "top", "crops", "wants", "names"] ["self", "soils", "top", "crops", "wants"] (ad0 Q2):=by simp_all_arith
theorem wq0:FnScope ["self"] ["self"] (ad0 wb0):=by simp_all_arith
theorem vq0:FnScope ["self", "soil", "stood", "crop"] ["self", "soil", "stood", "crop"] (ad0 vh0):=by simp_all_arith
theorem yq0:FnScope ["self", "soil", "stood"] ["self", "soil", "stood"] (ad0 Zb0):=by simp_all_arith
theorem Y9:FnScope ["self", "planting", "crop", "least", "most"] ["self", "planting"] (ad0 hh0):=by simp_all_arith
theorem Vf0:FnScope ["rows", "crops", "longer", "row"] ["rows", "crops"] (ad0 Wb0):=by simp_all_arith
theorem X6:FnScope ["self", "state", "rows", "soil", "stood"] ["self", "state"] (ad0 Xb0):=by simp_all_arith
theorem Wj0:FnScope ["self", "soil", "stood", "crop", "row"] ["self", "soil", "stood", "crop"] (ad0 Jh0):=by simp_all_arith
theorem xq0:FnScope ["self", "state", "planting"] ["self", "state", "planting"] (ad0 wc0):=by simp_all_arith
theorem hq0:FnScope ["script", "k"] ["script", "k"] (ad0 Wh0):=by simp_all_arith
theorem Zq0:FnScope ["script", "k"] ["script", "k"] (ad0 Yh0):=by simp_all_arith
theorem Vj0:FnScope ["script", "most", "cell"] ["script", "most"] (ad0 zi0):=by simp_all_arith
theorem j7:FnScope ["script", "k", "names", "gaps", "bars", "j", "harvest", "change"] ["script", "k", "names", "gaps"] (ad0 qi0):=by simp_all_arith
theorem v7:FnScope ["script", "names", "beds", "wants", "k", "cell", "least"] ["script", "names", "beds"] (ad0 ki0):=by simp_all_arith
theorem K0:FnScope ["script", "beds", "mode", "top", "many", "gaps", "turn", "names", "crops", "soils"] ["script", "beds"] (ad0 y8):=by simp_all_arith
theorem Yj0:FnScope ["plot", "crops"] ["plot"] (ad0 Xc0):=by simp_all_arith
theorem Yf0:FnScope ["plot", "bed", "number", "crop", "k"] ["plot", "bed", "number"] (ad0 vi0):=by simp_all_arith
theorem X9:FnScope ["rows", "numbers", "longer", "row", "number"] ["rows", "numbers"] (ad0 xi0):=by simp_all_arith
theorem Xf0:FnScope ["plot", "planting", "names", "name"] ["plot", "planting"] (ad0 vd0):=by simp_all_arith
theorem za0:FnScope ["plot", "state", "rows", "bed"] ["plot", "state"] (ad0 J8):=by simp_all_arith
theorem Qq0:FnScope ["plot"] ["plot"] (ad0 Qd0):=by simp_all_arith
theorem ja0:FnScope ["plot", "state", "planting", "beds", "k", "soil"] ["plot", "state", "planting"] (ad0 Ji0):=by simp_all_arith
theorem Jq0:FnScope ["plot"] ["plot"] (ad0 Yd0):=by simp_all_arith
theorem zg0:FnScope ["plot", "state", "plan", "planting"] ["plot", "state", "plan"] (ad0 Ki0):=by simp_all_arith
theorem Kq0:FnScope ["found"] ["found"] (ad0 Wi0):=by simp_all_arith
theorem Xj0:FnScope ["plan", "planting"] ["plan"] (ad0 we0):=by simp_all_arith
theorem zk0:FnScope ["plot", "told", "state"] ["plot", "told"] (ad0 Yi0):=by simp_all_arith
section
variable {P:Program}{w:World}{K:Aa3}{mg:Str->Option Value}{base:Heap}{C CWeb:Addr}(T:Txt K mg C CWeb)(a:Ats0 K mg C)
include T a
theorem Wq0:bj0 P w K mg base 1 "is_within" xg0 (W7 C):=by
 obtain⟨f,fd,F,r⟩:=a.Kn0
 refine⟨f,fd,aI0 F Yp0 (λ_ _ h=>aJ0 h) λcdv A outer s H E FF hr=>⟨va0 C,?_,λts o t h=>aA0 h⟩,r⟩
 exact(ai0 (bP0 (qt_w (di0 (bx0 (dk0 (n:= "bool") (x:= "bool") .bool (by rfl) T.J0 (by rfl) T.xj0 (by rfl) (ac0 (pv 0)))) (cO0 (bN0 (bx0 (dk0 (n:= "int") (x:= "int") .int (by rfl) T.J0 (by rfl) T.Zj0 (by rfl) (ac0 (pv 0)))))))) (al0 (aN0 dv0)) aM0)
   (al0 (aN0 (oh0 ou0 ou0 o_le o_le (ac0 (pv 1)) (ac0 (pv 0)) (ac0 (pv 2))))))
theorem W1:bj0 P w K mg base 2 "check_within" Zg0 (Z0 C):=by
 obtain⟨f,fd,F,r⟩:=a.Wn0
 refine⟨f,fd,aI0 F Xp0 (λ_ _ h=>aJ0 h) λcdv A outer s H E FF hr=>⟨xa0 C,?_,λts o t h=>aA0 h⟩,r⟩
 exact(al0 (bP0 (bN0 (bx0 (aH0 (Wq0 T a) hr.mono (by rfl) (ab0 (ak0 (pv 0)) (ab0 (ak0 (pv 1)) (ab0 (ak0 (pv 2)) ap0)))))) (al0 bU0) aM0))
theorem Vq0:bj0 P w K mg base 3 "check_beds" Jg0 (X3 C):=by
 obtain⟨f,fd,F,r⟩:=a.Vn0
 refine⟨f,fd,aI0 F Jj0 (λ_ _ h=>aJ0 h) λcdv A outer s H E FF hr=>⟨ha0 C,?_,λts o t h=>aA0 h⟩,r⟩
 exact(ai0 (bD0 (aH0 (W1 T a) hr.mono (by rfl) (ab0 (ak0 (pv 1)) (ab0 af0 (ab0 (ct0 (by rfl) T.Qn0) (ab0 cn0 ap0))))))
   (ai0 (bP0 (bN0 (bx0 (dk0 (n:= "list") (x:= "list") .list (by rfl) T.J0 (by rfl) T.K3 (by rfl) (ac0 (pv 0))))) (al0 bU0) aM0)
   (ai0 (bD0 (aH0 (W1 T a) hr.mono (by rfl) (ab0 (bZ0 (by rfl) T.x0 (ar0 (ac0 (pv 0)) aF0)) (ab0 af0 (ab0 (ct0 (by rfl) T.yn0) (ab0 cn0 ap0))))))
   (al0 (bQ0 PassesOwn.never rfl (be0 (ak0 (pv 0))) (bE0 (at0 (i:=2) Jj0.nd rfl (Or.inl rfl)))
   (al0 (bD0 (aH0 (W1 T a) hr.mono (by rfl) (ab0 (ak0 (pv 2)) (ab0 af0 (ab0 (ak0 (pv 1)) (ab0 cn0 ap0))))))))))))
theorem Yq0:bj0 P w K mg base 3 "check_crop" Wg0 (j4 C):=by
 obtain⟨f,fd,F,r⟩:=a.Yn0
 refine⟨f,fd,aI0 F zq0 (λ_ _ h=>aJ0 h) λcdv A outer s H E FF hr=>⟨Za0 C,?_,λts o t h=>aA0 h⟩,r⟩
 exact(ai0 (bP0 (qt_w (di0 (bN0 (bx0 (dk0 (n:= "tuple") (x:= "tuple") .tuple (by rfl) T.J0 (by rfl) T.Q0 (by rfl) (ac0 (pv 0))))) (cO0 (iv0 (hu20 hr) (ae0 (bZ0 (by rfl) T.x0 (ar0 (ac0 (pv 0)) aF0))) (ae0 af0))))) (al0 bU0) aM0)
   (ai0 (bP0 (qt_w (di0 (bN0 (bx0 (dk0 (n:= "str") (x:= "str") .str (by rfl) T.J0 (by rfl) T.wn0 (by rfl) (ae0 (az0 (ac0 (pv 0)) (ae0 af0)))))) (cO0 (hB0 (hu20 hr) (ae0 (az0 (ac0 (pv 0)) (ae0 af0))) (ae0 cn0))))) (al0 bU0) aM0)
   (ai0 (bD0 (aH0 (W1 T a) hr.mono (by rfl) (ab0 (az0 (ac0 (pv 0)) (ae0 af0)) (ab0 (sb0 (ae0 (ct0 (by rfl) T.Qj0))) (ab0 (ct0 (by rfl) T.Qj0) (ab0 cn0 ap0))))))
   (ai0 (bD0 (aH0 (W1 T a) hr.mono (by rfl) (ab0 (az0 (ac0 (pv 0)) (ae0 af0)) (ab0 af0 (ab0 (ct0 (by rfl) T.Zn0) (ab0 cn0 ap0))))))
   (ai0 (bD0 (aH0 (W1 T a) hr.mono (by rfl) (ab0 (az0 (ac0 (pv 0)) (ae0 af0)) (ab0 af0 (ab0 (ct0 (by rfl) T.hn0) (ab0 cn0 ap0))))))
   (al0 (bP0 (bN0 (bx0 (dk0 (n:= "list") (x:= "list") .list (by rfl) T.J0 (by rfl) T.K3 (by rfl) (ae0 (az0 (ac0 (pv 0)) (ae0 af0)))))) (al0 bU0) aM0)))))))
theorem qk0:bj0 P w K mg base 1 "check_name" Yg0 (J1 C):=by
 obtain⟨f,fd,F,r⟩:=a.Xn0
 refine⟨f,fd,aI0 F qq0 (λ_ _ h=>aJ0 h) λcdv A outer s H E FF hr=>⟨Qa0 C,?_,λts o t h=>aA0 h⟩,r⟩
 exact(al0 (bP0 (nV0 (ac0 (pv 0)) (ac0 (pv 1))) (al0 bU0) aM0))
theorem jk0:bj0 P w K mg base 1 "names_of" Xg0 (X1 C):=by
 obtain⟨f,fd,F,r⟩:=a.zo0
 refine⟨f,fd,aI0 F jq0 (λ_ _ h=>aJ0 h) λcdv A outer s H E FF hr=>⟨Wa0 C,?_,λts o t h=>aA0 h⟩,r⟩
 exact(al0 (fn0 (by0 rfl (own:=["crop"]) (cc0 Ka0 (ad0 Ja0) rfl rfl (by decide +kernel)) (be0 (ak0 (pv 0))) bo0 (λ_ _ _ _=>(at0 (i:=0) (bM0 ((["crop"]:List Str)++hide ["crop"] Ka0) rfl (by decide +kernel)) rfl (Or.inl rfl))) (λ_ _ _ _=>cb0) (λ_ _ _ _=>(az0 (ac0 (pv 0)) (ae0 af0))))))
theorem Xq0:bj0 P w K mg base 4 "check_crops" qh0 (v4 C):=by
 obtain⟨f,fd,F,r⟩:=a.qo0
 refine⟨f,fd,aI0 F Y6 (λ_ _ h=>aJ0 h) λcdv A outer s H E FF hr=>⟨Va0 C,?_,λts o t h=>aA0 h⟩,r⟩
 exact(ai0 (bP0 (bN0 (bx0 (dk0 (n:= "list") (x:= "list") .list (by rfl) T.J0 (by rfl) T.K3 (by rfl) (ac0 (pv 0))))) (al0 bU0) aM0)
   (ai0 (bD0 (aH0 (W1 T a) hr.mono (by rfl) (ab0 (bZ0 (by rfl) T.x0 (ar0 (ac0 (pv 0)) aF0)) (ab0 af0 (ab0 (ct0 (by rfl) T.xn0) (ab0 cn0 ap0))))))
   (ai0 (bQ0 PassesOwn.never rfl (be0 (ak0 (pv 0))) (bE0 (at0 (i:=1) Y6.nd rfl (Or.inl rfl)))
   (al0 (bD0 (aH0 (Yq0 T a) hr.mono (by rfl) (ab0 (ak0 (pv 1)) ap0)))))
   (ai0 (bb0 (i:=2) Y6.nd rfl (Or.inl rfl) (cH0 (eP0 (jk0 T a) hr.mono (by rfl) (ab0 (ak0 (pv 0)) ap0))))
   (ai0 (bP0 (iv0 (hu20 hr) (ae0 (ly0 rfl (by rfl) T.x0 (by rfl) T.kn0 (ac0 (pv 2)))) (ae0 (bZ0 (by rfl) T.x0 (ar0 (ac0 (pv 2)) aF0)))) (al0 bU0) aM0)
   (al0 (bQ0 PassesOwn.never rfl (be0 (ak0 (pv 0))) (bE0 (at0 (i:=1) Y6.nd rfl (Or.inl rfl)))
   (al0 (bQ0 PassesOwn.never rfl (be0 (az0 (ac0 (pv 1)) (ae0 af0))) (bE0 (at0 (i:=3) Y6.nd rfl (Or.inl rfl)))
   (al0 (bD0 (aH0 (qk0 T a) hr.mono (by rfl) (ab0 (ak0 (pv 3)) (ab0 (ak0 (pv 2)) ap0))))))))))))))
theorem zr0:bj0 P w K mg base 3 "check_wants" kh0 (Z4 C):=by
 obtain⟨f,fd,F,r⟩:=a.jo0
 refine⟨f,fd,aI0 F Wf0 (λ_ _ h=>aJ0 h) λcdv A outer s H E FF hr=>⟨Ya0 C,?_,λts o t h=>aA0 h⟩,r⟩
 exact(ai0 (bP0 (bN0 (bx0 (dk0 (n:= "dict") (x:= "dict") .dict (by rfl) T.J0 (by rfl) T.hj0 (by rfl) (ac0 (pv 0))))) (al0 bU0) aM0)
   (al0 (bQ0 PassesOwn.never rfl (jV0 (ak0 (pv 0))) (ld0 (eS0 rfl (bn0 (at0 (i:=2) Wf0.nd rfl (Or.inl rfl)) (bn0 (at0 (i:=3) Wf0.nd rfl (Or.inl rfl)) dB0))))
   (ai0 (bD0 (aH0 (qk0 T a) hr.mono (by rfl) (ab0 (ak0 (pv 2)) (ab0 (ak0 (pv 1)) ap0))))
   (ai0 (bP0 (qt_w (di0 (bN0 (bx0 (dk0 (n:= "tuple") (x:= "tuple") .tuple (by rfl) T.J0 (by rfl) T.Q0 (by rfl) (ac0 (pv 3))))) (cO0 (iv0 (hu20 hr) (ae0 (bZ0 (by rfl) T.x0 (ar0 (ac0 (pv 3)) aF0))) (ae0 af0))))) (al0 bU0) aM0)
   (ai0 (bD0 (aH0 (W1 T a) hr.mono (by rfl) (ab0 (az0 (ac0 (pv 3)) (ae0 af0)) (ab0 af0 (ab0 (ct0 (by rfl) T.Jn0) (ab0 cn0 ap0))))))
   (al0 (bD0 (aH0 (W1 T a) hr.mono (by rfl) (ab0 (az0 (ac0 (pv 3)) (ae0 af0)) (ab0 af0 (ab0 (az0 (ac0 (pv 3)) (ae0 af0)) (ab0 cn0 ap0)))))))))))))
theorem qr0:bj0 P w K mg base 1 "numbers_of" wh0 (Z2 C):=by
 obtain⟨f,fd,F,r⟩:=a.ko0
 refine⟨f,fd,aI0 F kq0 (λ_ _ h=>aJ0 h) λcdv A outer s H E FF hr=>⟨qb0 C,?_,λts o t h=>aA0 h⟩,r⟩
 exact(al0 (aN0 (bJ0 (by rfl) T.Q0 (ar0 (cp0 (by0 rfl (own:=["name"]) (cc0 zb0 (ad0 Xa0) rfl rfl (by decide +kernel)) (be0 (ak0 (pv 0))) bo0 (λ_ _ _ _=>(at0 (i:=0) (bM0 ((["name"]:List Str)++hide ["name"] zb0) rfl (by decide +kernel)) rfl (Or.inl rfl))) (λ_ _ _ _=>cb0) (λ_ _ _ _=>(jL0 (ac0 (pv 2)) (ar0 (ac0 (pv 0)) aF0))))) aF0))))
theorem y7:qE0 P w K mg base C 5 "Garden" jb0 (Q4 C):=by
 obtain⟨f,fd,F,r⟩:=a.wo0
 refine⟨f,fd,qw0 (N:=["soils", "top", "crops", "wants", "names"]) F Kj0 (λ_ _ h=>pq0 h) λcdv A outer s H E Y hr=>⟨kb0 C,?_,λts r h=>nt0 h⟩,r⟩
 exact(ai0 (bD0 (aH0 (Vq0 T a) hr.mono (by rfl) (ab0 (ak0 (pv 1)) (ab0 (ak0 (pv 2)) ap0))))
   (ai0 (bD0 (aH0 (Xq0 T a) hr.mono (by rfl) (ab0 (ak0 (pv 3)) ap0)))
   (ai0 (bb0 (i:=5) Kj0.nd rfl (Or.inr rfl) (cH0 (eP0 (jk0 T a) hr.mono (by rfl) (ab0 (ak0 (pv 3)) ap0))))
   (ai0 (bD0 (aH0 (zr0 T a) hr.mono (by rfl) (ab0 (ak0 (pv 4)) (ab0 (ak0 (pv 5)) ap0))))
   (ai0 (cX0 (pv 0) T.cl_Garden T.kj0 (bJ0 (by rfl) T.Q0 (ar0 (ac0 (pv 1)) aF0)))
   (ai0 (cX0 (pv 0) T.cl_Garden T.wj0 (ak0 (pv 2)))
   (ai0 (cX0 (pv 0) T.cl_Garden T.K9 (bJ0 (by rfl) T.Q0 (ar0 (cp0 (by0 rfl (own:=["crop"]) (cc0 W0 (ad0 Q2) rfl rfl (by decide +kernel)) (be0 (ak0 (pv 3))) bo0 (λ_ _ _ _=>(at0 (i:=0) (bM0 ((["crop"]:List Str)++hide ["crop"] W0) rfl (by decide +kernel)) rfl (Or.inl rfl))) (λ_ _ _ _=>cb0) (λ_ _ _ _=>(az0 (ac0 (pv 0)) (ae0 af0))))) aF0)))
   (ai0 (cX0 (pv 0) T.cl_Garden T.jn0 (bJ0 (by rfl) T.Q0 (ar0 (cp0 (by0 rfl (own:=["crop"]) (cc0 W0 (ad0 Q2) rfl rfl (by decide +kernel)) (be0 (ak0 (pv 3))) bo0 (λ_ _ _ _=>(at0 (i:=0) (bM0 ((["crop"]:List Str)++hide ["crop"] W0) rfl (by decide +kernel)) rfl (Or.inl rfl))) (λ_ _ _ _=>cb0) (λ_ _ _ _=>(az0 (ac0 (pv 0)) (ae0 af0))))) aF0)))
   (ai0 (cX0 (pv 0) T.cl_Garden T.Qf0 (bJ0 (by rfl) T.Q0 (ar0 (cp0 (by0 rfl (own:=["crop"]) (cc0 W0 (ad0 Q2) rfl rfl (by decide +kernel)) (be0 (ak0 (pv 3))) bo0 (λ_ _ _ _=>(at0 (i:=0) (bM0 ((["crop"]:List Str)++hide ["crop"] W0) rfl (by decide +kernel)) rfl (Or.inl rfl))) (λ_ _ _ _=>cb0) (λ_ _ _ _=>(az0 (ac0 (pv 0)) (ae0 af0))))) aF0)))
   (ai0 (cX0 (pv 0) T.cl_Garden T.qj0 (bJ0 (by rfl) T.Q0 (ar0 (cp0 (by0 rfl (own:=["crop"]) (cc0 W0 (ad0 Q2) rfl rfl (by decide +kernel)) (be0 (ak0 (pv 3))) bo0 (λ_ _ _ _=>(at0 (i:=0) (bM0 ((["crop"]:List Str)++hide ["crop"] W0) rfl (by decide +kernel)) rfl (Or.inl rfl))) (λ_ _ _ _=>cb0) (λ_ _ _ _=>(aH0 (qr0 T a) hr.mono (by rfl) (ab0 (az0 (ac0 (pv 0)) (ae0 af0)) (ab0 (ak0 (pv 6)) ap0)))))) aF0)))
   (ai0 (cX0 (pv 0) T.cl_Garden T.vj0 (bJ0 (by rfl) T.Q0 (ar0 (cp0 (by0 rfl (own:=["name", "pair"]) (cc0 W0 (ad0 Q2) rfl rfl (by decide +kernel)) (jV0 (ak0 (pv 4))) ms0 (λ_ _ _ _=>(eS0 rfl (bn0 (at0 (i:=0) (bM0 ((["name", "pair"]:List Str)++hide ["name", "pair"] W0) rfl (by decide +kernel)) rfl (Or.inl rfl)) (bn0 (at0 (i:=1) (bM0 ((["name", "pair"]:List Str)++hide ["name", "pair"] W0) rfl (by decide +kernel)) rfl (Or.inl rfl)) dB0)))) (λ_ _ _ _=>cb0) (λ_ _ _ _=>(bS0 (ab0 (jL0 (ac0 (pv 7)) (ar0 (ac0 (pv 0)) aF0)) (ab0 (az0 (ac0 (pv 1)) (ae0 af0)) (ab0 (az0 (ac0 (pv 1)) (ae0 af0)) ap0))))))) aF0)))
   (al0 (cX0 (pv 0) T.cl_Garden T.jj0 (pN0 rfl (by rfl) T.V6 (ar0 (ae0 af0) (ar0 (ae0 (oG0 rfl (by rfl) T.V6 (ar0 (ae0 (dl0 (ac0 (pv 0)) T.cl_Garden T.Qf0)) aF0))) aF0))))))))))))))))
theorem qg0:ex0 P w K mg base C 1 "start" yb0 (V7 C):=by
 obtain⟨f,fd,F,r⟩:=a.vo0
 refine⟨f,fd,aI0 F wq0 (λ_ _ h=>aJ0 h) λcdv A outer s H E FF hr=>⟨xb0 C,?_,λts o t h=>aA0 h⟩,r⟩
 exact(al0 (aN0 (bJ0 (by rfl) T.Q0 (ar0 (cp0 (by0 rfl (own:=["soil"]) (cc0 vb0 (ad0 wb0) rfl rfl (by decide +kernel)) (fz0 (dl0 (ac0 (pv 0)) T.cl_Garden T.kj0)) bo0 (λ_ _ _ _=>(at0 (i:=0) (bM0 ((["soil"]:List Str)++hide ["soil"] vb0) rfl (by decide +kernel)) rfl (Or.inl rfl))) (λ_ _ _ _=>cb0) (λ_ _ _ _=>(bS0 (ab0 (ak0 (pv 0)) (ab0 (bS0 ap0) ap0)))))) aF0))))
theorem jr0:ex0 P w K mg base C 1 "lets" yh0 (J4 C):=by
 obtain⟨f,fd,F,r⟩:=a.yo0
 refine⟨f,fd,aI0 F vq0 (λ_ _ h=>aJ0 h) λcdv A outer s H E FF hr=>⟨hb0 C,?_,λts o t h=>aA0 h⟩,r⟩
 exact(ai0 (bP0 (nI0 (ae0 (bF0 (ac0 (pv 1)) (ae0 (az0 (ae0 (dl0 (ac0 (pv 0)) T.cl_Garden T.K9)) (ac0 (pv 3)))))) (ae0 af0)) (al0 (aN0 dv0)) aM0)
   (ai0 (bP0 (qt_in (ac0 (pv 3)) (ae0 (jZ0 (ac0 (pv 2)) dp0 (du0 (ae0 (az0 (ae0 (dl0 (ac0 (pv 0)) T.cl_Garden T.Qf0)) (ac0 (pv 3)))))))) (al0 (aN0 dv0)) aM0)
   (al0 (aN0 (se_or (od0 (hu20 hr) (ae0 (bZ0 (by rfl) T.x0 (ar0 (ac0 (pv 2)) aF0))) (ae0 af0)) (jP0 (kv0 (ae0 (az0 (ac0 (pv 2)) (ae0 af0))) (ae0 (az0 (ae0 (dl0 (ac0 (pv 0)) T.cl_Garden T.qj0)) (ac0 (pv 3)))))))))))
theorem kr0:ex0 P w K mg base C 2 "crops_for" xh0 (K4 C):=by
 obtain⟨f,fd,F,r⟩:=a.xo0
 refine⟨f,fd,aI0 F yq0 (λ_ _ h=>aJ0 h) λcdv A outer s H E FF hr=>⟨Jb0 C,?_,λts o t h=>aA0 h⟩,r⟩
 exact(al0 (fn0 (by0 rfl (own:=["crop"]) (cc0 Qb0 (ad0 Zb0) rfl rfl (by decide +kernel)) (bW0 (by rfl) T.Z1 (ar0 (ae0 (bZ0 (by rfl) T.x0 (ar0 (ae0 (dl0 (ac0 (pv 0)) T.cl_Garden T.K9)) aF0))) aF0)) bo0 (λ_ _ _ _=>(at0 (i:=0) (bM0 ((["crop"]:List Str)++hide ["crop"] Qb0) rfl (by decide +kernel)) rfl (Or.inl rfl))) (λ_ _ _ _=>(iY0 (bx0 (pr0 (ak0 (pv 1)) T.cl_Garden (jr0 T a) hr.mono (ab0 (ak0 (pv 2)) (ab0 (ak0 (pv 3)) (ab0 (ak0 (pv 0)) ap0))))))) (λ_ _ _ _=>(ak0 (pv 0))))))
theorem wr0:ex0 P w K mg base C 1 "meets_wants" Zh0 (W4 C):=by
 obtain⟨f,fd,F,r⟩:=a.ho0
 refine⟨f,fd,aI0 F Y9 (λ_ _ h=>aJ0 h) λcdv A outer s H E FF hr=>⟨Kb0 C,?_,λts o t h=>aA0 h⟩,r⟩
 exact(ai0 (bQ0 PassesOwn.never rfl (fz0 (dl0 (ac0 (pv 0)) T.cl_Garden T.vj0)) (qM0 (eS0 rfl (bn0 (at0 (i:=2) Y9.nd rfl (Or.inl rfl)) (bn0 (at0 (i:=3) Y9.nd rfl (Or.inl rfl)) (bn0 (at0 (i:=4) Y9.nd rfl (Or.inl rfl)) dB0)))))
   (al0 (bP0 (bN0 (nz0 ou0 ou0 o_le o_le (ac0 (pv 3)) (ae0 (mW0 (ac0 (pv 1)) (ar0 (ac0 (pv 2)) aF0))) (ac0 (pv 4)))) (al0 (aN0 dv0)) aM0)))
   (al0 (aN0 dv0)))
theorem vr0:bj0 P w K mg base 1 "lengthened" Qh0 (V4 C):=by
 obtain⟨f,fd,F,r⟩:=a.Zo0
 refine⟨f,fd,aI0 F Vf0 (λ_ _ h=>aJ0 h) λcdv A outer s H E FF hr=>⟨Yb0 C,?_,λts o t h=>aA0 h⟩,r⟩
 exact(ai0 (fq0 (i:=2) Vf0.nd rfl (Or.inl rfl) (cw0 ap0))
   (ai0 (bQ0 PassesOwn.never rfl (be0 (ak0 (pv 0))) (bE0 (at0 (i:=3) Vf0.nd rfl (Or.inr rfl)))
   (al0 (mt0 (pv 2) (cH0 (by0 rfl (own:=["crop"]) (cc0 Vb0 (ad0 Wb0) rfl rfl (by decide +kernel)) (be0 (ak0 (pv 1))) bo0 (λ_ _ _ _=>(at0 (i:=0) (bM0 ((["crop"]:List Str)++hide ["crop"] Vb0) rfl (by decide +kernel)) rfl (Or.inl rfl))) (λ_ _ _ _=>cb0) (λ_ _ _ _=>(eL0 (ac0 (pv 4)) (ae0 (bS0 (ab0 (ak0 (pv 0)) ap0))))))))))
   (al0 (ir0 (pv 2)))))
theorem jg0:ex0 P w K mg base C 3 "may" qc0 (Y7 C):=by
 obtain⟨f,fd,F,r⟩:=a.Qo0
 refine⟨f,fd,aI0 F X6 (λ_ _ h=>aJ0 h) λcdv A outer s H E FF hr=>⟨jc0 C,?_,λts o t h=>aA0 h⟩,r⟩
 exact(ai0 (bb0 (i:=2) X6.nd rfl (Or.inl rfl) (cH0 (cw0 (ab0 (bS0 ap0) ap0))))
   (ai0 (bQ0 PassesOwn.never rfl (fz0 (ak0 (pv 1))) (ld0 (eS0 rfl (bn0 (at0 (i:=3) X6.nd rfl (Or.inl rfl)) (bn0 (at0 (i:=4) X6.nd rfl (Or.inl rfl)) dB0))))
   (al0 (bb0 (i:=2) X6.nd rfl (Or.inl rfl) (cH0 (eP0 (vr0 T a) hr.mono (by rfl) (ab0 (ak0 (pv 2)) (ab0 (cH0 (fe_me (ak0 (pv 0)) T.cl_Garden (kr0 T a) hr.mono (ab0 (ak0 (pv 3)) (ab0 (ak0 (pv 4)) ap0)))) ap0)))))))
   (al0 (fn0 (by0 rfl (own:=["row"]) (cc0 zc0 (ad0 Xb0) rfl rfl (by decide +kernel)) (be0 (ak0 (pv 2))) bo0 (λ_ _ _ _=>(at0 (i:=0) (bM0 ((["row"]:List Str)++hide ["row"] zc0) rfl (by decide +kernel)) rfl (Or.inl rfl))) (λ_ _ _ _=>(iY0 (bx0 (pr0 (ak0 (pv 1)) T.cl_Garden (wr0 T a) hr.mono (ab0 (ak0 (pv 0)) ap0))))) (λ_ _ _ _=>(ak0 (pv 0))))))))
theorem yr0:ex0 P w K mg base C 1 "bed_behind" Kh0 (Y4 C):=by
 obtain⟨f,fd,F,r⟩:=a.Jo0
 refine⟨f,fd,aI0 F Wj0 (λ_ _ h=>aJ0 h) λcdv A outer s H E FF hr=>⟨kc0 C,?_,λts o t h=>aA0 h⟩,r⟩
 exact(ai0 (bb0 (i:=4) Wj0.nd rfl (Or.inl rfl) (eL0 (ae0 (bS0 (ab0 (ak0 (pv 3)) ap0))) (ac0 (pv 2))))
   (al0 (aN0 (bS0 (ab0 (fY0 rfl (by rfl) T.V9 (ar0 (ae0 (dl0 (ac0 (pv 0)) T.cl_Garden T.wj0)) (ar0 (ae0 (bF0 (ac0 (pv 1)) (ae0 (az0 (ae0 (dl0 (ac0 (pv 0)) T.cl_Garden T.K9)) (ac0 (pv 3)))))) aF0))) (ab0 (jZ0 (ac0 (pv 4)) dp0 (du0 (ae0 (dl0 (ac0 (pv 0)) T.cl_Garden T.jj0)))) ap0))))))
theorem kg0:ex0 P w K mg base C 2 "beds_behind" vc0 (q8 C):=by
 obtain⟨f,fd,F,r⟩:=a.Ko0
 refine⟨f,fd,aI0 F xq0 (λ_ _ h=>aJ0 h) λcdv A outer s H E FF hr=>⟨yc0 C,?_,λts o t h=>aA0 h⟩,r⟩
 exact(al0 (aN0 (bJ0 (by rfl) T.Q0 (ar0 (cp0 (by0 rfl (own:=["bed", "crop"]) (cc0 X7 (ad0 wc0) rfl rfl (by decide +kernel)) (rO0 (by rfl) T.vn0 (ar0 (ac0 (pv 1)) (ar0 (ac0 (pv 2)) aF0))) ms0 (λ_ _ _ _=>(eS0 rfl (bn0 (at0 (i:=0) (bM0 ((["bed", "crop"]:List Str)++hide ["bed", "crop"] X7) rfl (by decide +kernel)) rfl (Or.inl rfl)) (bn0 (at0 (i:=1) (bM0 ((["bed", "crop"]:List Str)++hide ["bed", "crop"] X7) rfl (by decide +kernel)) rfl (Or.inl rfl)) dB0)))) (λ_ _ _ _=>cb0) (λ_ _ _ _=>(pr0 (ak0 (pv 2)) T.cl_Garden (yr0 T a) hr.mono (ab0 (az0 (ac0 (pv 0)) (ae0 af0)) (ab0 (az0 (ac0 (pv 0)) (ae0 af0)) (ab0 (ak0 (pv 1)) ap0))))))) aF0))))
theorem xr0:bj0 P w K mg base 1 "_law_cell_at" Vh0 (X4 C):=by
 obtain⟨f,fd,F,r⟩:=a.Wo0
 refine⟨f,fd,aI0 F hq0 (λ_ _ h=>aJ0 h) λcdv A outer s H E FF hr=>⟨xc0 C,?_,λts o t h=>aA0 h⟩,r⟩
 exact(ai0 (bP0 (nI0 (ac0 (pv 1)) (ae0 (bZ0 (by rfl) T.x0 (ar0 (ac0 (pv 0)) aF0)))) (al0 (aN0 (az0 (ac0 (pv 0)) (ac0 (pv 1))))) aM0)
   (al0 (aN0 af0)))
theorem V0:bj0 P w K mg base 2 "_law_draw" Xh0 (j0 C):=by
 obtain⟨f,fd,F,r⟩:=a.Vo0
 refine⟨f,fd,aI0 F Zq0 (λ_ _ h=>aJ0 h) λcdv A outer s H E FF hr=>⟨Zc0 C,?_,λts o t h=>aA0 h⟩,r⟩
 exact(al0 (aN0 (bR0 (ae0 (eR0 (ae0 (bF0 (ae0 (aH0 (xr0 T a) hr.mono (by rfl) (ab0 (ak0 (pv 0)) (ab0 (bR0 (ac0 (pv 1)) (ae0 af0)) ap0)))) (ae0 (eR0 (ae0 af0) (ac0 (pv 1)))))) (ae0 (bF0 (ae0 af0) (ae0 (eR0 (ae0 af0) (ac0 (pv 1)))))))) (ae0 af0))))
theorem Z7:bj0 P w K mg base 3 "_law_beds" Qc0 (j8 C):=by
 obtain⟨f,fd,F,r⟩:=a.Yo0
 refine⟨f,fd,aI0 F Vj0 (λ_ _ h=>aJ0 h) λcdv A outer s H E FF hr=>⟨Jc0 C,?_,λts o t h=>aA0 h⟩,r⟩
 exact(ai0 (bb0 (i:=2) Vj0.nd rfl (Or.inl rfl) (aH0 (V0 T a) hr.mono (by rfl) (ab0 (ak0 (pv 0)) (ab0 af0 ap0))))
   (ai0 (bP0 (hB0 (hu20 hr) (ac0 (pv 1)) (ae0 af0)) (al0 (aN0 (bF0 (ae0 af0) (ae0 (bR0 (ac0 (pv 2)) (ae0 af0)))))) aM0)
   (ai0 (bP0 (qt_w (sc0 (hB0 (hu20 hr) (ac0 (pv 1)) (ae0 af0)) (pW0 (hB0 (hu20 hr) (ae0 (bR0 (ac0 (pv 2)) (ae0 af0))) (ae0 af0))))) (al0 (aN0 af0)) aM0)
   (al0 (aN0 (bF0 (ae0 af0) (ae0 (bR0 (ac0 (pv 2)) (ae0 af0)))))))))
theorem Zr0:bj0 P w K mg base 3 "_law_crop" ji0 (j5 C):=by
 obtain⟨f,fd,F,r⟩:=a.Xo0
 refine⟨f,fd,aI0 F j7 (λ_ _ h=>aJ0 h) λcdv A outer s H E FF hr=>⟨Kc0 C,?_,λts o t h=>aA0 h⟩,r⟩
 exact(ai0 (fq0 (i:=4) j7.nd rfl (Or.inl rfl) (cw0 ap0))
   (ai0 (bQ0 PassesOwn.never rfl (bW0 (by rfl) T.Z1 (ar0 (ae0 (bZ0 (by rfl) T.x0 (ar0 (ac0 (pv 2)) aF0))) aF0)) (bE0 (at0 (i:=5) j7.nd rfl (Or.inl rfl)))
   (al0 (bP0 (hB0 (hu20 hr) (ae0 (bR0 (ae0 (aH0 (V0 T a) hr.mono (by rfl) (ab0 (ak0 (pv 0)) (ab0 (bF0 (ae0 (bF0 (ae0 af0) (ae0 (eR0 (ae0 af0) (ac0 (pv 1)))))) (ac0 (pv 5))) ap0)))) (ae0 af0))) (ae0 af0)) (al0 (eZ0 (pv 4) (az0 (ac0 (pv 2)) (ac0 (pv 5))))) aM0)))
   (ai0 (bb0 (i:=6) j7.nd rfl (Or.inl rfl) (bR0 (ae0 (aH0 (V0 T a) hr.mono (by rfl) (ab0 (ak0 (pv 0)) (ab0 (bF0 (ae0 af0) (ae0 (eR0 (ae0 af0) (ac0 (pv 1))))) ap0)))) (ae0 (az0 (cp0 (cw0 (ab0 af0 (ab0 af0 (ab0 af0 ap0))))) (ae0 (bR0 (ae0 (aH0 (V0 T a) hr.mono (by rfl) (ab0 (ak0 (pv 0)) (ab0 af0 ap0)))) (ae0 af0)))))))
   (ai0 (bb0 (i:=7) j7.nd rfl (Or.inl rfl) (rQ0 (ae0 (bR0 (ae0 (aH0 (V0 T a) hr.mono (by rfl) (ab0 (ak0 (pv 0)) (ab0 (bF0 (ae0 af0) (ae0 (eR0 (ae0 af0) (ac0 (pv 1))))) ap0)))) (ae0 af0))) (ae0 af0)))
   (al0 (mf0 4 (aN0 (bS0 (ab0 (az0 (ac0 (pv 2)) (ac0 (pv 1))) (ab0 (ak0 (pv 7)) (ab0 (ak0 (pv 6)) (ab0 (bR0 (ae0 (aH0 (V0 T a) hr.mono (by rfl) (ab0 (ak0 (pv 0)) (ab0 (bF0 (ae0 af0) (ae0 (eR0 (ae0 af0) (ac0 (pv 1))))) ap0)))) (ae0 (bF0 (ac0 (pv 3)) (ae0 af0)))) (ab0 (ak0 (pv 4)) ap0)))))))))))))
theorem Qr0:bj0 P w K mg base 3 "_law_wants" wi0 (v8 C):=by
 obtain⟨f,fd,F,r⟩:=a.zp0
 refine⟨f,fd,aI0 F v7 (λ_ _ h=>aJ0 h) λcdv A outer s H E FF hr=>⟨Wc0 C,?_,λts o t h=>aA0 h⟩,r⟩
 exact(ai0 (fq0 (i:=3) v7.nd rfl (Or.inl rfl) ps0)
   (ai0 (bQ0 PassesOwn.never rfl (bW0 (by rfl) T.Z1 (ar0 (ae0 (bZ0 (by rfl) T.x0 (ar0 (ac0 (pv 1)) aF0))) aF0)) (bE0 (at0 (i:=4) v7.nd rfl (Or.inl rfl)))
   (ai0 (bb0 (i:=5) v7.nd rfl (Or.inl rfl) (aH0 (V0 T a) hr.mono (by rfl) (ab0 (ak0 (pv 0)) (ab0 (bF0 (ae0 af0) (ac0 (pv 4))) ap0))))
   (al0 (bP0 (hB0 (hu20 hr) (ae0 (bR0 (ac0 (pv 5)) (ae0 af0))) (ae0 af0)) (ai0 (bb0 (i:=6) v7.nd rfl (Or.inl rfl) (az0 (cp0 (cw0 (ab0 af0 (ab0 af0 (ab0 af0 (ab0 (ak0 (pv 2)) ap0)))))) (ae0 (bR0 (ae0 (pf0 (ac0 (pv 5)) (ae0 af0))) (ae0 af0)))))
   (al0 (qR0 (ce0 hr) (pv 3) (ae0 (az0 (ac0 (pv 1)) (ac0 (pv 4)))) (bS0 (ab0 (ak0 (pv 6)) (ab0 (fY0 rfl (by rfl) T.V9 (ar0 (ae0 af0) (ar0 (ae0 (bF0 (ac0 (pv 6)) (ae0 (bR0 (ae0 (pf0 (ac0 (pv 5)) (ae0 af0))) (ae0 (bF0 (ac0 (pv 2)) (ae0 af0))))))) aF0))) ap0)))))) aM0))))
   (al0 (ir0 (pv 3)))))
theorem Q7:bj0 P w K mg base 4 "_law_garden" Vc0 (Z8 C):=by
 obtain⟨f,fd,F,r⟩:=a.qp0
 refine⟨f,fd,aI0 F K0 (λ_ _ h=>aJ0 h) λcdv A outer s H E FF hr=>⟨Yc0 C,?_,λts o t h=>aA0 h⟩,r⟩
 exact(ai0 (bb0 (i:=2) K0.nd rfl (Or.inl rfl) (bR0 (ae0 (aH0 (V0 T a) hr.mono (by rfl) (ab0 (ak0 (pv 0)) (ab0 af0 ap0)))) (ae0 af0)))
   (ai0 (bb0 (i:=3) K0.nd rfl (Or.inr rfl) (az0 (cp0 (cw0 (ab0 af0 (ab0 af0 (ab0 af0 (ab0 af0 (ab0 af0 (ab0 af0 (ab0 af0 (ab0 af0 ap0)))))))))) (ac0 (pv 2))))
   (ai0 (bb0 (i:=4) K0.nd rfl (Or.inl rfl) (az0 (cp0 (cw0 (ab0 af0 (ab0 af0 (ab0 af0 (ab0 af0 (ab0 af0 (ab0 af0 (ab0 af0 (ab0 af0 ap0)))))))))) (ac0 (pv 2))))
   (ai0 (bb0 (i:=5) K0.nd rfl (Or.inr rfl) (az0 (cp0 (cw0 (ab0 af0 (ab0 af0 (ab0 af0 (ab0 af0 (ab0 af0 (ab0 af0 (ab0 af0 (ab0 af0 ap0)))))))))) (ac0 (pv 2))))
   (ai0 (bP0 (qt_gt (ac0 (pv 1)) (ae0 af0)) (ai0 (bb0 (i:=3) K0.nd rfl (Or.inr rfl) af0)
   (ai0 (bb0 (i:=4) K0.nd rfl (Or.inl rfl) (bF0 (ae0 af0) (ae0 (bR0 (ae0 (aH0 (V0 T a) hr.mono (by rfl) (ab0 (ak0 (pv 0)) (ab0 af0 ap0)))) (ae0 af0)))))
   (al0 (bb0 (i:=5) K0.nd rfl (Or.inr rfl) (bR0 (ae0 (aH0 (V0 T a) hr.mono (by rfl) (ab0 (ak0 (pv 0)) (ab0 af0 ap0)))) (ae0 af0)))))) aM0)
   (ai0 (bb0 (i:=6) K0.nd rfl (Or.inl rfl) (bR0 (ae0 (aH0 (V0 T a) hr.mono (by rfl) (ab0 (ak0 (pv 0)) (ab0 af0 ap0)))) (ae0 af0)))
   (ai0 (bb0 (i:=7) K0.nd rfl (Or.inr rfl) (cH0 (cw0 (ab0 cn0 (ab0 cn0 (ab0 cn0 (ab0 cn0 (ab0 cn0 ap0))))))))
   (ai0 (bb0 (i:=7) K0.nd rfl (Or.inr rfl) (cH0 (lB0 (cp0 (io0 (cp0 (lB0 (ac0 (pv 7)) (du0 (ac0 (pv 6))) dp0)) (cp0 (lB0 (ac0 (pv 7)) dp0 (du0 (ac0 (pv 6))))))) dp0 (du0 (ac0 (pv 4))))))
   (ai0 (gk0 (i:=8) (own:=["k"]) K0.nd rfl (Or.inl rfl) rfl (cc0 Z5 (ad0 y8) rfl rfl (by decide +kernel)) (bW0 (by rfl) T.Z1 (ar0 (ac0 (pv 4)) aF0)) bo0 (λ_ _ _ _=>(at0 (i:=0) (bM0 ((["k"]:List Str)++hide ["k"] Z5) rfl (by decide +kernel)) rfl (Or.inl rfl))) (λ_ _ _ _=>cb0) (λ_ _ _ _=>(aH0 (Zr0 T a) hr.mono (by rfl) (ab0 (ak0 (pv 1)) (ab0 (ak0 (pv 0)) (ab0 (ak0 (pv 8)) (ab0 (ak0 (pv 6)) ap0)))))) (by rfl))
   (ai0 (gk0 (i:=9) (own:=["k"]) K0.nd rfl (Or.inl rfl) rfl (cc0 Z5 (ad0 y8) rfl rfl (by decide +kernel)) (bW0 (by rfl) T.Z1 (ar0 (ac0 (pv 1)) aF0)) bo0 (λ_ _ _ _=>(at0 (i:=0) (bM0 ((["k"]:List Str)++hide ["k"] Z5) rfl (by decide +kernel)) rfl (Or.inl rfl))) (λ_ _ _ _=>cb0) (λ_ _ _ _=>(bR0 (ae0 (aH0 (V0 T a) hr.mono (by rfl) (ab0 (ak0 (pv 1)) (ab0 (bF0 (ae0 af0) (ac0 (pv 0))) ap0)))) (ae0 (bF0 (ac0 (pv 4)) (ae0 af0))))) (by rfl))
   (al0 (aN0 (bS0 (ab0 (ak0 (pv 9)) (ab0 (ak0 (pv 3)) (ab0 (ak0 (pv 8)) (ab0 (cH0 (eP0 (Qr0 T a) hr.mono (by rfl) (ab0 (ak0 (pv 0)) (ab0 (ak0 (pv 7)) (ab0 (ak0 (pv 1)) ap0))))) ap0)))))))))))))))))
theorem J7:bj0 P w K mg base 1 "_law_handed" qd0 (Q8 C):=by
 obtain⟨f,fd,F,r⟩:=a.jp0
 refine⟨f,fd,aI0 F Yj0 (λ_ _ h=>aJ0 h) λcdv A outer s H E FF hr=>⟨jd0 C,?_,λts o t h=>aA0 h⟩,r⟩
 exact(ai0 (gk0 (i:=1) (own:=["crop"]) Yj0.nd rfl (Or.inl rfl) rfl (cc0 zd0 (ad0 Xc0) rfl rfl (by decide +kernel)) (be0 (az0 (ac0 (pv 0)) (ae0 af0))) bo0 (λ_ _ _ _=>(at0 (i:=0) (bM0 ((["crop"]:List Str)++hide ["crop"] zd0) rfl (by decide +kernel)) rfl (Or.inl rfl))) (λ_ _ _ _=>cb0) (λ_ _ _ _=>(eL0 (ae0 (jZ0 (ac0 (pv 0)) dp0 (du0 (ae0 af0)))) (ae0 (bS0 (ab0 (cH0 (nh0 (by rfl) T.K3 (ar0 (ae0 (az0 (ac0 (pv 0)) (ae0 af0))) aF0))) ap0))))) (by rfl))
   (al0 (fn0 (cw0 (ab0 (cH0 (nh0 (by rfl) T.K3 (ar0 (ae0 (az0 (ac0 (pv 0)) (ae0 af0))) aF0))) (ab0 (az0 (ac0 (pv 0)) (ae0 af0)) (ab0 (ak0 (pv 1)) (ab0 (cH0 (pj0 (by rfl) T.hj0 (ar0 (ae0 (az0 (ac0 (pv 0)) (ae0 af0))) aF0))) ap0))))))))
theorem Jr0:bj0 P w K mg base 1 "_law_lets" yi0 (J2 C):=by
 obtain⟨f,fd,F,r⟩:=a.kp0
 refine⟨f,fd,aI0 F Yf0 (λ_ _ h=>aJ0 h) λcdv A outer s H E FF hr=>⟨kd0 C,?_,λts o t h=>aA0 h⟩,r⟩
 exact(ai0 (bb0 (i:=3) Yf0.nd rfl (Or.inl rfl) (az0 (ae0 (az0 (ac0 (pv 0)) (ae0 af0))) (ac0 (pv 2))))
   (ai0 (bP0 (nI0 (ae0 (bF0 (ae0 (az0 (ac0 (pv 1)) (ae0 af0))) (ae0 (az0 (ac0 (pv 3)) (ae0 af0))))) (ae0 af0)) (al0 (aN0 dv0)) aM0)
   (ai0 (bQ0 PassesOwn.never rfl (bW0 (by rfl) T.Z1 (ar0 (ae0 (fY0 rfl (by rfl) T.V9 (ar0 (ae0 (az0 (ac0 (pv 3)) (ae0 af0))) (ar0 (ae0 (bZ0 (by rfl) T.x0 (ar0 (ae0 (az0 (ac0 (pv 1)) (ae0 af0))) aF0))) aF0)))) aF0)) (bE0 (at0 (i:=4) Yf0.nd rfl (Or.inl rfl)))
   (al0 (bP0 (hB0 (hu20 hr) (ae0 (az0 (ae0 (az0 (ac0 (pv 1)) (ae0 af0))) (ac0 (pv 4)))) (ac0 (pv 2))) (al0 (aN0 dv0)) aM0)))
   (al0 (aN0 (se_or (od0 (hu20 hr) (ae0 (az0 (ac0 (pv 1)) (ae0 af0))) (ae0 (bS0 ap0))) (jP0 (kv0 (ae0 (az0 (ae0 (az0 (ae0 (az0 (ac0 (pv 0)) (ae0 af0))) (ae0 (az0 (ae0 (az0 (ac0 (pv 1)) (ae0 af0))) (ae0 af0))))) (ae0 af0))) (ae0 (az0 (ac0 (pv 3)) (ae0 af0)))))))))))
theorem Kr0:bj0 P w K mg base 1 "_law_longer" hi0 (Q5 C):=by
 obtain⟨f,fd,F,r⟩:=a.wp0
 refine⟨f,fd,aI0 F X9 (λ_ _ h=>aJ0 h) λcdv A outer s H E FF hr=>⟨wd0 C,?_,λts o t h=>aA0 h⟩,r⟩
 exact(ai0 (fq0 (i:=2) X9.nd rfl (Or.inl rfl) (cw0 ap0))
   (ai0 (bQ0 PassesOwn.never rfl (be0 (ak0 (pv 0))) (bE0 (at0 (i:=3) X9.nd rfl (Or.inl rfl)))
   (al0 (bQ0 PassesOwn.never rfl (be0 (ak0 (pv 1))) (bE0 (at0 (i:=4) X9.nd rfl (Or.inl rfl)))
   (al0 (eZ0 (pv 2) (eL0 (ac0 (pv 3)) (ae0 (bS0 (ab0 (ak0 (pv 4)) ap0)))))))))
   (al0 (ir0 (pv 2)))))
theorem Wr0:bj0 P w K mg base 1 "_law_wanted" Zi0 (J5 C):=by
 obtain⟨f,fd,F,r⟩:=a.vp0
 refine⟨f,fd,aI0 F Xf0 (λ_ _ h=>aJ0 h) λcdv A outer s H E FF hr=>⟨xd0 C,?_,λts o t h=>aA0 h⟩,r⟩
 exact(ai0 (gk0 (i:=2) (own:=["number"]) Xf0.nd rfl (Or.inl rfl) rfl (cc0 yd0 (ad0 vd0) rfl rfl (by decide +kernel)) (fz0 (ak0 (pv 1))) bo0 (λ_ _ _ _=>(at0 (i:=0) (bM0 ((["number"]:List Str)++hide ["number"] yd0) rfl (by decide +kernel)) rfl (Or.inl rfl))) (λ_ _ _ _=>cb0) (λ_ _ _ _=>(az0 (ae0 (az0 (ae0 (az0 (ac0 (pv 1)) (ae0 af0))) (ac0 (pv 0)))) (ae0 af0))) (by rfl))
   (ai0 (bQ0 PassesOwn.never rfl (qv0 (az0 (ac0 (pv 0)) (ae0 af0))) (bE0 (at0 (i:=3) Xf0.nd rfl (Or.inl rfl)))
   (al0 (bP0 (qt_w (di0 (nI0 (ae0 (iG0 (ac0 (pv 2)) (ar0 (ac0 (pv 3)) aF0))) (ae0 (az0 (ae0 (lJ0 (ce0 hr) (ae0 (az0 (ac0 (pv 0)) (ae0 af0))) (ac0 (pv 3)))) (ae0 af0)))) (cO0 (qt_gt (ae0 (iG0 (ac0 (pv 2)) (ar0 (ac0 (pv 3)) aF0))) (ae0 (az0 (ae0 (lJ0 (ce0 hr) (ae0 (az0 (ac0 (pv 0)) (ae0 af0))) (ac0 (pv 3)))) (ae0 af0))))))) (al0 (aN0 dv0)) aM0)))
   (al0 (aN0 dv0))))
theorem ka0:bj0 P w K mg base 2 "_law_may" hd0 (V2 C):=by
 obtain⟨f,fd,F,r⟩:=a.yp0
 refine⟨f,fd,aI0 F za0 (λ_ _ h=>aJ0 h) λcdv A outer s H E FF hr=>⟨Zd0 C,?_,λts o t h=>aA0 h⟩,r⟩
 exact(ai0 (bb0 (i:=2) za0.nd rfl (Or.inl rfl) (cH0 (cw0 (ab0 (bS0 ap0) ap0))))
   (ai0 (bQ0 PassesOwn.never rfl (fz0 (ak0 (pv 1))) (bE0 (at0 (i:=3) za0.nd rfl (Or.inr rfl)))
   (al0 (bb0 (i:=2) za0.nd rfl (Or.inl rfl) (cH0 (eP0 (Kr0 T a) hr.mono (by rfl) (ab0 (ak0 (pv 2)) (ab0 (cH0 (by0 rfl (own:=["number"]) (cc0 K5 (ad0 J8) rfl rfl (by decide +kernel)) (bW0 (by rfl) T.Z1 (ar0 (ae0 (bZ0 (by rfl) T.x0 (ar0 (ae0 (az0 (ac0 (pv 0)) (ae0 af0))) aF0))) aF0)) bo0 (λ_ _ _ _=>(at0 (i:=0) (bM0 ((["number"]:List Str)++hide ["number"] K5) rfl (by decide +kernel)) rfl (Or.inl rfl))) (λ_ _ _ _=>(iY0 (bx0 (aH0 (Jr0 T a) hr.mono (by rfl) (ab0 (ak0 (pv 1)) (ab0 (ak0 (pv 4)) (ab0 (ak0 (pv 0)) ap0))))))) (λ_ _ _ _=>(ak0 (pv 0))))) ap0)))))))
   (al0 (fn0 (by0 rfl (own:=["row"]) (cc0 K5 (ad0 J8) rfl rfl (by decide +kernel)) (be0 (ak0 (pv 2))) bo0 (λ_ _ _ _=>(at0 (i:=0) (bM0 ((["row"]:List Str)++hide ["row"] K5) rfl (by decide +kernel)) rfl (Or.inl rfl))) (λ_ _ _ _=>(iY0 (bx0 (aH0 (Wr0 T a) hr.mono (by rfl) (ab0 (ak0 (pv 1)) (ab0 (ak0 (pv 0)) ap0)))))) (λ_ _ _ _=>(ak0 (pv 0))))))))
theorem Vr0:bj0 P w K mg base 1 "_law_memory" Qi0 (W5 C):=by
 obtain⟨f,fd,F,r⟩:=a.xp0
 refine⟨f,fd,aI0 F Qq0 (λ_ _ h=>aJ0 h) λcdv A outer s H E FF hr=>⟨Kd0 C,?_,λts o t h=>aA0 h⟩,r⟩
 exact(al0 (aN0 (oG0 rfl (by rfl) T.V6 (ar0 (cp0 (io0 (cp0 (cw0 (ab0 af0 ap0))) (cp0 (by0 rfl (own:=["crop"]) (cc0 Jd0 (ad0 Qd0) rfl rfl (by decide +kernel)) (be0 (az0 (ac0 (pv 0)) (ae0 af0))) bo0 (λ_ _ _ _=>(at0 (i:=0) (bM0 ((["crop"]:List Str)++hide ["crop"] Jd0) rfl (by decide +kernel)) rfl (Or.inl rfl))) (λ_ _ _ _=>cb0) (λ_ _ _ _=>(az0 (ac0 (pv 0)) (ae0 af0))))))) aF0))))
theorem wa0:bj0 P w K mg base 2 "_law_behind" Wd0 (Y2 C):=by
 obtain⟨f,fd,F,r⟩:=a.Zp0
 refine⟨f,fd,aI0 F ja0 (λ_ _ h=>aJ0 h) λcdv A outer s H E FF hr=>⟨Vd0 C,?_,λts o t h=>aA0 h⟩,r⟩
 exact(ai0 (fq0 (i:=3) ja0.nd rfl (Or.inl rfl) (cw0 ap0))
   (ai0 (bQ0 PassesOwn.never rfl (bW0 (by rfl) T.Z1 (ar0 (ae0 (bZ0 (by rfl) T.x0 (ar0 (ac0 (pv 1)) aF0))) aF0)) (bE0 (at0 (i:=4) ja0.nd rfl (Or.inl rfl)))
   (ai0 (bb0 (i:=5) ja0.nd rfl (Or.inl rfl) (fY0 rfl (by rfl) T.V9 (ar0 (ae0 (az0 (ac0 (pv 0)) (ae0 af0))) (ar0 (ae0 (bF0 (ae0 (az0 (ae0 (az0 (ac0 (pv 1)) (ac0 (pv 4)))) (ae0 af0))) (ae0 (az0 (ae0 (az0 (ae0 (az0 (ac0 (pv 0)) (ae0 af0))) (ae0 (az0 (ac0 (pv 2)) (ac0 (pv 4)))))) (ae0 af0))))) aF0))))
   (al0 (eZ0 (pv 3) (bS0 (ab0 (ak0 (pv 5)) (ab0 (jZ0 (ae0 (eL0 (ae0 (bS0 (ab0 (az0 (ac0 (pv 2)) (ac0 (pv 4))) ap0))) (ae0 (az0 (ae0 (az0 (ac0 (pv 1)) (ac0 (pv 4)))) (ae0 af0))))) dp0 (du0 (ae0 (aH0 (Vr0 T a) hr.mono (by rfl) (ab0 (ak0 (pv 0)) ap0))))) ap0)))))))
   (al0 (aN0 (bJ0 (by rfl) T.Q0 (ar0 (ac0 (pv 3)) aF0))))))
theorem y3:bj0 P w K mg base 1 "_law_start" K8 (Q3 C):=by
 obtain⟨f,fd,F,r⟩:=a.Qp0
 refine⟨f,fd,aI0 F Jq0 (λ_ _ h=>aJ0 h) λcdv A outer s H E FF hr=>⟨ze0 C,?_,λts o t h=>aA0 h⟩,r⟩
 exact(al0 (aN0 (bJ0 (by rfl) T.Q0 (ar0 (cp0 (by0 rfl (own:=["soil"]) (cc0 Xd0 (ad0 Yd0) rfl rfl (by decide +kernel)) (be0 (az0 (ac0 (pv 0)) (ae0 af0))) bo0 (λ_ _ _ _=>(at0 (i:=0) (bM0 ((["soil"]:List Str)++hide ["soil"] Xd0) rfl (by decide +kernel)) rfl (Or.inl rfl))) (λ_ _ _ _=>cb0) (λ_ _ _ _=>(bS0 (ab0 (ak0 (pv 0)) (ab0 (bS0 ap0) ap0)))))) aF0))))
theorem Y1:bj0 P w K mg base 3 "_law_gone" qe0 (X2 C):=by
 obtain⟨f,fd,F,r⟩:=a.Jp0
 refine⟨f,fd,aI0 F zg0 (λ_ _ h=>aJ0 h) λcdv A outer s H E FF hr=>⟨je0 C,?_,λts o t h=>aA0 h⟩,r⟩
 exact(ai0 (bQ0 PassesOwn.never rfl (be0 (ak0 (pv 2))) (bE0 (at0 (i:=3) zg0.nd rfl (Or.inl rfl)))
   (ai0 (bP0 (qt_w (di0 (bN0 (bx0 (dk0 (n:= "tuple") (x:= "tuple") .tuple (by rfl) T.J0 (by rfl) T.Q0 (by rfl) (ac0 (pv 3))))) (cO0 (rw0 (hu10 hr) (ac0 (pv 3)) (cp0 (eP0 (ka0 T a) hr.mono (by rfl) (ab0 (ak0 (pv 0)) (ab0 (ak0 (pv 1)) ap0)))))))) (al0 (aN0 mG0)) aM0)
   (al0 (bb0 (i:=1) zg0.nd rfl (Or.inl rfl) (aH0 (wa0 T a) hr.mono (by rfl) (ab0 (ak0 (pv 0)) (ab0 (ak0 (pv 1)) (ab0 (ak0 (pv 3)) ap0))))))))
   (al0 (aN0 (ak0 (pv 1)))))
theorem Y3:bj0 P w K mg base 1 "_law_whole" ke0 (V1 C):=by
 obtain⟨f,fd,F,r⟩:=a.Kp0
 refine⟨f,fd,aI0 F Kq0 (λ_ _ h=>aJ0 h) λcdv A outer s H E FF hr=>⟨Vi0 C,?_,λts o t h=>aA0 h⟩,r⟩
 exact(al0 (aN0 (oL0 (dk0 (n:= "int") (x:= "int") .int (by rfl) T.J0 (by rfl) T.Zj0 (by rfl) (ac0 (pv 0))) (jP0 (rG0 (dk0 (n:= "bool") (x:= "bool") .bool (by rfl) T.J0 (by rfl) T.xj0 (by rfl) (ac0 (pv 0))))))))
theorem Z3:bj0 P w K mg base 2 "_law_numbers" ye0 (j3 C):=by
 obtain⟨f,fd,F,r⟩:=a.Wp0
 refine⟨f,fd,aI0 F Xj0 (λ_ _ h=>aJ0 h) λcdv A outer s H E FF hr=>⟨xe0 C,?_,λts o t h=>aA0 h⟩,r⟩
 exact(ai0 (bP0 (bN0 (bx0 (dk0 (n:= "list") (x:= "list") .list (by rfl) T.J0 (by rfl) T.K3 (by rfl) (ac0 (pv 0))))) (al0 (aN0 dv0)) aM0)
   (ai0 (bQ0 PassesOwn.never rfl (be0 (ak0 (pv 0))) (bE0 (at0 (i:=1) Xj0.nd rfl (Or.inl rfl)))
   (al0 (bP0 (qt_w (di0 (bN0 (bx0 (dk0 (n:= "tuple") (x:= "tuple") .tuple (by rfl) T.J0 (by rfl) T.Q0 (by rfl) (ac0 (pv 1))))) (cO0 (qt_in (ae0 dv0) (cp0 (by0 rfl (own:=["number"]) (cc0 ve0 (ad0 we0) rfl rfl (by decide +kernel)) (fz0 (ak0 (pv 1))) bo0 (λ_ _ _ _=>(at0 (i:=0) (bM0 ((["number"]:List Str)++hide ["number"] ve0) rfl (by decide +kernel)) rfl (Or.inl rfl))) (λ_ _ _ _=>cb0) (λ_ _ _ _=>(aH0 (Y3 T a) hr.mono (by rfl) (ab0 (ak0 (pv 0)) ap0))))))))) (al0 (aN0 dv0)) aM0)))
   (al0 (aN0 dv0))))
theorem K7:bj0 P w K mg base 4 "_law_round" he0 (W8 C):=by
 obtain⟨f,fd,F,r⟩:=a.Vp0
 refine⟨f,fd,aI0 F zk0 (λ_ _ h=>aJ0 h) λcdv A outer s H E FF hr=>⟨Ze0 C,?_,λts o t h=>aA0 h⟩,r⟩
 exact(ai0 (bP0 (qt_w (di0 (bN0 (bx0 (dk0 (n:= "tuple") (x:= "tuple") .tuple (by rfl) T.J0 (by rfl) T.Q0 (by rfl) (ac0 (pv 1))))) (di0 (iv0 (hu20 hr) (ae0 (bZ0 (by rfl) T.x0 (ar0 (ac0 (pv 1)) aF0))) (ae0 af0)) (di0 (bN0 (bx0 (aH0 (Z3 T a) hr.mono (by rfl) (ab0 (az0 (ac0 (pv 1)) (ae0 af0)) ap0)))) (cO0 (bN0 (bx0 (aH0 (Z3 T a) hr.mono (by rfl) (ab0 (az0 (ac0 (pv 1)) (ae0 af0)) ap0))))))))) (al0 (aN0 dv0)) aM0)
   (ai0 (bb0 (i:=2) zk0.nd rfl (Or.inl rfl) (aH0 (Y1 T a) hr.mono (by rfl) (ab0 (ak0 (pv 0)) (ab0 (aH0 (y3 T a) hr.mono (by rfl) (ab0 (ak0 (pv 0)) ap0)) (ab0 (az0 (ac0 (pv 1)) (ae0 af0)) ap0)))))
   (ai0 (bP0 (qt_w (di0 (rZ0 (ac0 (pv 2)) (ae0 mG0)) (cO0 (hB0 (hu20 hr) (ae0 (bZ0 (by rfl) T.x0 (ar0 (ae0 (az0 (ac0 (pv 1)) (ae0 af0))) aF0))) (ae0 af0))))) (al0 (aN0 dv0)) aM0)
   (al0 (aN0 (oL0 (od0 (hu20 hr) (ae0 (aH0 (Y1 T a) hr.mono (by rfl) (ab0 (ak0 (pv 0)) (ab0 (ak0 (pv 2)) (ab0 (az0 (ac0 (pv 1)) (ae0 af0)) ap0))))) (ac0 (pv 2))) (jP0 (od0 (hu20 hr) (ae0 (aH0 (Y1 T a) hr.mono (by rfl) (ab0 (ak0 (pv 0)) (ab0 (ak0 (pv 2)) (ab0 (cH0 (io0 (ae0 (az0 (ac0 (pv 1)) (ae0 af0))) (ae0 (az0 (ac0 (pv 1)) (ae0 af0))))) ap0))))) (ac0 (pv 2))))))))))
end
open PySem PySem.Spec L2 L2.BD
local macro_rules | `(tactic| simp_arith! [$xs,*]) => `(tactic| simp only [sSeq, sIf, sNx, sSet, cT0, sRet, fv0, bd0, qB, qNot, qAnd, qOr, e1, e2, bVar, eVar, eC, eFld, ay0, eTup, eLst, aa0, aNil, eOr, eAnd, eNot, eSlT, eSlL, bk0, eBM, iLst, iTpl, Af4, Ae9, Aa2, Ad5, Al1, Ah2, Ap4, Ao5, Ad6, dj0, φAdd, φSub, φLt, φLe, φGt, φGe, φLen, An8, Ai1, Ak3, Aj4, Al2, An1, As0, Ae3, Ae4, noD, eFn, eFnF, isI, $xs,*])
local macro_rules | `(tactic| simp_arith [$xs,*]) => `(tactic| simp only [sSeq, sIf, sNx, sSet, cT0, sRet, bd0, qB, qNot, qAnd, qOr, e1, e2, bVar, eVar, eC, eFld, ay0, eTup, eLst, aa0, aNil, eOr, eAnd, eNot, eSlT, eSlL, bk0, eBM, iLst, iTpl, Af4, Ae9, Aa2, Ad5, Al1, Ah2, Ap4, Ao5, Ad6, dj0, φAdd, φSub, φLt, φLe, φGt, φGe, φLen, An8, Ai1, Ak3, Aj4, Al2, An1, As0, $xs,*])
structure Crop where
 name:Str
 change:Int
 harvest:Int
 gap:Int
 bars:List Str
structure Plot where
 soils:List Int
 top:Int
 crops:List Crop
 wants:List (Str × Int × Int)
abbrev Plot.names (p:Plot):List Str:=p.crops.map (·.name)
abbrev intT (n:Nat):T:=.int (n:Int)
def rowT (xs:List Nat):T:=.tup (xs.map intT)
def au0 (c:Crop):T:=.tup [.str c.name,.int c.change,.int c.harvest,.int c.gap,.lst (c.bars.map .str)]
def aP0 (ws:List (Str × Int × Int)):T:=.dct (ws.map λx=>(x.1,.tup [.int x.2.1,.int x.2.2]))
def aD0 (p:Plot):T:=.tup [.lst (p.soils.map .int),.int p.top,.lst (p.crops.map au0),aP0 p.wants]
def bedT (b:Int × List Nat):T:=.tup [.int b.1,rowT b.2]
def as0 (s:List (Int × List Nat)):T:=.tup (s.map bedT)
def num (p:Plot)(x:Str):Nat:=p.names.idxOf x
def cm0 (p:Plot)(c:Crop):List Nat:=c.bars.map (num p)
def depth (p:Plot):Int:=match p.crops.map (·.gap) with| []=>1|g::gs=>if maxI g gs>1 then maxI g gs else 1
def bI0 (p:Plot):List (Str × T):=
  [("soils",.tup (p.soils.map .int)),("top",.int p.top),("changes",.tup (p.crops.map λc=> .int c.change)),("harvests",.tup (p.crops.map λc=> .int c.harvest)),
   ("gaps",.tup (p.crops.map λc=> .int c.gap)),("bars",.tup (p.crops.map λc=>rowT (cm0 p c))),("wants",.tup (p.wants.map λx=> .tup [intT (num p x.1),.int x.2.1,.int x.2.2])),("depth",.int (depth p))]
def garT (C:Addr)(p:Plot):T:=.ins C (bI0 p)
theorem pB0 (p:Plot):(bI0 p).lookup ("soils" :Str)=some (T.tup (p.soils.map .int)):=by rfl
theorem f_top (p:Plot):(bI0 p).lookup ("top" :Str)=some (T.int p.top):=by rfl
theorem bY0 (p:Plot):(bI0 p).lookup ("changes" :Str)=some (T.tup (p.crops.map λc=> .int c.change)):=by rfl
theorem fR0 (p:Plot):(bI0 p).lookup ("gaps" :Str)=some (T.tup (p.crops.map λc=> .int c.gap)):=by rfl
theorem fE0 (p:Plot):(bI0 p).lookup ("bars" :Str)=some (T.tup (p.crops.map λc=>rowT (cm0 p c))):=by rfl
theorem qZ0 (p:Plot):(bI0 p).lookup ("wants" :Str)=some (T.tup (p.wants.map λx=> .tup [intT (num p x.1),.int x.2.1,.int x.2.2])):=by rfl
theorem qW0 (p:Plot):(bI0 p).lookup ("depth" :Str)=some (T.int (depth p)):=by rfl
theorem aL0 {g:En->Option Fl}{ts:List T}(h:ts.length=n)(he:db0 N ts=ε):fnT N n g ts=(g ε).bind dj0:=by
 unfold fnT
 rw [if_pos h,he]
theorem ix_tup (f:Crop->T)(l:List Crop)(i:Nat)(c:Crop)(h:l[i]?=some c):φIx (.tup (l.map f)) (intT i)=some (f c):=by
 show L2.atI (l.map f) (i:Int)=_
 exact L2.atI_nat (by rw [Ab0,h]; rfl)
theorem iS0 (f:Crop->T)(l:List Crop)(i:Nat)(c:Crop)(h:l[i]?=some c):φIx (.lst (l.map f)) (intT i)=some (f c):=by
 show L2.atI (l.map f) (i:Int)=_
 exact L2.atI_nat (by rw [Ab0,h]; rfl)
theorem rb0 (xs:List Nat)(i:Nat):(xs.map intT).any (λy=>eqV (toV y) (toV (intT i)))=decide (i∈xs):=by
 induction xs with
 |nil=>simp
 |cons x xs ih=>
  rw [Ac2,Ai0,ih]
  show (((x:Int)==(i:Int))||decide (i∈xs))=_
  by_cases h:x=i
  ·subst h; simp
  ·have:((x:Int)==(i:Int))=false:=by simp; omega
   rw [this]
   simp [Ne.symm h]
theorem jJ0 (xs:List Nat):(xs.map intT).all aZ0=true:=by
 induction xs with
 |nil=>rfl
 |cons x xs ih=>rw [Ac2,Aj3,ih]; rfl
theorem pd0 (b:Bool)(i:Nat)(xs:List Nat):φIn b (intT i) (rowT xs)=some (.bl (if b then !decide (i∈xs) else decide (i∈xs))):=by
 show (if aZ0 (intT i) && (xs.map intT).all aZ0 then _ else _)=_
 rw [jJ0,rb0]
 rfl
theorem ij0 (xs:List Nat)(k:Int)(hk:0<=k):cutT (xs.map intT) none (some k)=(xs.take k.toNat).map intT:=by
 unfold cutT
 rw [HT.sIx_none]
 have:HT.sIx (xs.map intT).length (xs.map intT).length (some k)=min k.toNat xs.length:=by
  show (if k<0 then _ else min k.toNat _)=_
  rw [if_neg (by omega),Aa1]
 rw [this,Ar7,Aw4,List.map_take]
 apply List.ext_getElem?
 intro j
 simp only [List.getElem?_take]
 by_cases h1:j<k.toNat
 ·by_cases h2:j<xs.length
  ·rw [if_pos (by omega),if_pos h1]
  ·rw [if_neg (by omega),if_pos h1]
   exact(Ai9 (by rw [Aa1]; omega)).symm
 ·rw [if_neg (by omega),if_neg h1]
def dt0 (p:Plot)(soil:Int)(stood:List Nat)(i:Nat):Bool:=match p.crops[i]? with
 |none=>false
 |some c=>decide (0<=soil+c.change) && !decide (i∈stood.take c.gap.toNat) && (match stood with| []=>true|s::_=> !decide (s∈cm0 p c))
theorem rc0 (C:Addr)(p:Plot)(soil:Int)(stood:List Nat)(i:Nat)(c:Crop)(hc:p.crops[i]?=some c)(hg:0<=c.gap):
  J4 C [garT C p,.int soil,rowT stood,intT i]=some (false,.bl (dt0 p soil stood i)):=by
 have e1:φIx (.tup (p.crops.map λc=> .int c.change)) (intT i)=some (.int c.change):=ix_tup (λc=> .int c.change) _ _ _ hc
 have e2':φIx (.tup (p.crops.map λc=> .int c.gap)) (intT i)=some (.int c.gap):=ix_tup (λc=> .int c.gap) _ _ _ hc
 have e3:φIx (.tup (p.crops.map λc=>rowT (cm0 p c))) (intT i)=some (rowT (cm0 p c)):=ix_tup (λc=>rowT (cm0 p c)) _ _ _ hc
 have e4:cutT (stood.map intT) none (some c.gap)=(stood.take c.gap.toNat).map intT:=ij0 _ _ hg
 unfold rowT at e3
 unfold J4 hb0
 refine(aL0 (ε:=[.sh (garT C p),.sh (.int soil),.sh (rowT stood),.sh (intT i)]) rfl rfl).trans ?_
 unfold dt0
 rw [hc]
 simp_arith [garT,bY0,fR0,fE0,e1,e2',e3,e4,rowT]
 by_cases h1:soil+c.change<0
 ·have h1':¬(0<=soil+c.change):=by omega
  simp_arith [h1,h1',garT,bY0,fR0,fE0,e1,e2',e3,e4,rowT]
 ·have h1':0<=soil+c.change:=by omega
  have e5:=pd0 false i (stood.take c.gap.toNat)
  unfold rowT at e5
  simp_arith [h1,h1',e5,garT,bY0,fR0,fE0,e1,e2',e3,e4,rowT]
  by_cases h2:i∈stood.take c.gap.toNat
  ·simp_arith [h2,garT,bY0,fR0,fE0,e1,e2',e3,e4,rowT]
  ·simp_arith [h2,garT,bY0,fR0,fE0,e1,e2',e3,e4,rowT]
   cases stood with
   |nil=>rfl
   |cons s r=>
    have e6:=pd0 true s (cm0 p c)
    unfold rowT at e6
    have e7:φIx (.tup ((s::r).map intT)) (.int 0)=some (intT s):=by show L2.atI ((s::r).map intT) ((0:Nat):Int)=_; exact L2.atI_nat rfl
    have e8:φEq (.int (((s::r).map intT).length:Int)) (.int 0)=some (.bl false):=by
     show some (T.bl (decide (V.int _=V.int 0)))=_
     rw [Ad3]
     intro z
     have:=V.int.inj z
     simp at this
     omega
    simp_arith [e8,e7,e6,garT,bY0,fR0,fE0,e1,e2',e3,e4,rowT]
def Pl (stood:List Nat)(i:Nat):T->Bool
 | .int k=>decide (stood[k.toNat]?=some i)
 |_=>false
theorem lR0 (stood:List Nat)(i n:Nat):(bl0 0 n).any (Pl stood i)=decide (i∈stood.take n):=by
 unfold bl0
 rw [At5]
 rw [Ak0,Ap8,Ag4,List.mem_take_iff_getElem]
 constructor
 ·rintro⟨k,hk,h⟩
  have h:decide (stood[(0+(k:Int)).toNat]?=some i)=true:=h
  have e:(0+(k:Int)).toNat=k:=by omega
  rw [e,Ag4] at h
  obtain⟨hl,h⟩:=Aa9.mp h
  exact⟨k,by have:=Ag5.mp hk; omega,h⟩
 ·rintro⟨k,hk,h⟩
  refine⟨k,Ag5.mpr (by omega),?_⟩
  show decide (stood[(0+(k:Int)).toNat]?=some i)=true
  have e:(0+(k:Int)).toNat=k:=by omega
  rw [e,Ag4]
  exact Aa9.mpr ⟨by omega,h⟩
structure Named (p:Plot):Prop where
 nd:p.names.Nodup
 bars:∀c∈p.crops,∀b∈c.bars,b∈p.names
 wants:∀x∈p.wants,x.1∈p.names
theorem ix0 (h:Named p)(hc:p.crops[s]?=some c):num p c.name=s:=by
 obtain⟨hl,e⟩:=Aa9.mp hc
 have hl':s<p.names.length:=by simpa using hl
 have e':p.names[s]=c.name:=by simp [e]
 unfold num
 rw [<- e']
 exact h.nd.idxOf_getElem s hl'
theorem mp0 (h:Named p)(hd:p.crops[s]?=some d)(hc:c∈p.crops):decide (s∈cm0 p c)=decide (d.name∈c.bars):=by
 rw [Aq1]
 unfold cm0
 rw [Ac0]
 constructor
 ·rintro⟨b,hb,e⟩
  have hn:=h.bars c hc b hb
  have e1:p.names[num p b]?=some b:=by
   have hl:p.names.idxOf b<p.names.length:=An2 hn
   exact(Aa4 hl).trans (congrArg some (Ao2 hl))
  rw [e] at e1
  rw [Ab0,hd] at e1
  cases e1
  exact hb
 ·intro hb
  exact⟨d.name,hb,ix0 h hd⟩
theorem qy0 (xs:List Str)(x:Str):(xs.map T.str).any (λy=>eqV (toV y) (toV (.str x)))=decide (x∈xs):=by
 induction xs with
 |nil=>simp
 |cons y xs ih=>
  rw [Ac2,Ai0,ih]
  show ((y==x)||decide (x∈xs))=_
  by_cases h:y=x
  ·subst h; simp
  ·have:(y==x)=false:=by simpa using h
   rw [this]
   simp [Ne.symm h]
theorem gL0 (xs:List Str):(xs.map T.str).all aZ0=true:=by
 induction xs with
 |nil=>rfl
 |cons x xs ih=>rw [Ac2,Aj3,ih]; rfl
theorem mI0 (b:Bool)(x:Str)(xs:List Str):φIn b (.str x) (.lst (xs.map .str))=some (.bl (if b then !decide (x∈xs) else decide (x∈xs))):=by
 show (if aZ0 (.str x) && (xs.map T.str).all aZ0 then _ else _)=_
 rw [gL0,qy0]
 rfl
theorem aK0 (ts:List T)(k:Nat)(t:T)(h:ts[k]?=some t):φIx (.tup ts) (.int (k:Int))=some t:=L2.atI_nat h
theorem et0 (ts:List T)(k:Nat)(t:T)(h:ts[k]?=some t):φIx (.lst ts) (.int (k:Int))=some t:=L2.atI_nat h
theorem kJ0 (C:Addr)(p:Plot)(hp:Named p)(soil:Int)(stood:List Nat)(hs:∀s∈stood,s<p.crops.length)(i:Nat)(c:Crop)(hc:p.crops[i]?=some c)(hg:0<=c.gap)(hsl:stood.length<=1000):
  J2 C [aD0 p,bedT (soil,stood),intT i]=some (false,.bl (dt0 p soil stood i)):=by
 have a1:φIx (aD0 p) (.int 2)=some (.lst (p.crops.map au0)):=aK0 _ 2 _ rfl
 have a2:φIx (.lst (p.crops.map au0)) (intT i)=some (au0 c):=iS0 au0 _ _ _ hc
 have a3:φIx (bedT (soil,stood)) (.int 0)=some (.int soil):=aK0 _ 0 _ rfl
 have a4:φIx (bedT (soil,stood)) (.int 1)=some (rowT stood):=aK0 _ 1 _ rfl
 have a5:φIx (au0 c) (.int 1)=some (.int c.change):=aK0 _ 1 _ rfl
 have a6:φIx (au0 c) (.int 3)=some (.int c.gap):=aK0 _ 3 _ rfl
 have a7:φIx (au0 c) (.int 4)=some (.lst (c.bars.map .str)):=aK0 _ 4 _ rfl
 have hci:c∈p.crops:=Ac7 hc
 unfold J2 kd0
 refine(aL0 (ε:=[.sh (aD0 p),.sh (bedT (soil,stood)),.sh (intT i),.un,.un]) rfl rfl).trans ?_
 unfold dt0
 rw [hc]
 simp_arith [Ae3,Ae4,a1,a2,a3,a4,a5,a6,a7]
 by_cases h1:soil+c.change<0
 ·have h1':¬(0<=soil+c.change):=by omega
  simp_arith [h1,h1',Ae3,Ae4]
 ·have h1':0<=soil+c.change:=by omega
  simp_arith [h1,h1',Ae3,Ae4,a4,a6,sFor,aY0,rowT,Aa1,ed0]
  have hm:(if(stood.length:Int)<c.gap then(stood.length:Int) else c.gap)=((min stood.length c.gap.toNat:Nat):Int):=by split<;>omega
  rw [hm,if_pos ⟨by omega,by omega⟩,Aa2,Ac9]
  have ht:stood.take (min stood.length c.gap.toNat)=stood.take c.gap.toNat:=by
   rw [Nat.min_comm,<- List.take_take,Ae7]
  obtain⟨lt,lf⟩:=eG0 (o:=false) (r:=.bl false) (bd:=aq0 4) (body:=sIf (qB (e2 φEq (e2 φIx (e2 φIx (bVar 1) (eC (T.int 1))) (bVar 4)) (bVar 2))) (sRet false (eC (T.bl false))) sNx)
   (λε=>∃z,ε=[.sh (aD0 p),.sh (bedT (soil,stood)),.sh (intT i),.sh (au0 c),z]) (Pl stood i) (bl0 0 (min stood.length c.gap.toNat)) [.sh (aD0 p),.sh (bedT (soil,stood)),.sh (intT i),.sh (au0 c),.un] ⟨_,rfl⟩ λt ε ht ⟨z,he⟩=>by
    subst he
    obtain⟨k,hk,rfl⟩:=Ac0.mp ht
    have hk:=Ag5.mp hk
    have ek:(0+(k:Int))=(k:Int):=by omega
    rw [ek]
    have hkl:k<stood.length:=by omega
    have b1:φIx (rowT stood) (.int (k:Int))=some (intT stood[k]):=aK0 _ k _ (by rw [Ab0,Aa4 hkl]; rfl)
    have b2:φEq (intT stood[k]) (intT i)=some (.bl (decide (stood[k]=i))):=by
     show some (T.bl (decide (V.int _=V.int _)))=_
     congr 2
     rw [Aq1]
     constructor
     ·intro z; exact Int.ofNat_inj.mp (V.int.inj z)
     ·intro z; rw [z]
    have b3:Pl stood i (.int (k:Int))=decide (stood[k]=i):=by
     show decide (stood[((k:Int)).toNat]?=some i)=_
     rw [Ac9,Aa4 hkl,Aq1]
     simp
    refine⟨_,rfl,λq=> ?_,λq=> ?_⟩
    ·rw [b3] at q
     simp_arith [Ae3,Ae4,a4,b1,b2,q]
    ·rw [b3] at q
     simp_arith [Ae3,Ae4,a4,b1,b2,q]
     exact⟨_,rfl,_,rfl⟩
  rw [lR0,ht] at lt lf
  by_cases h2:i∈stood.take c.gap.toNat
  ·rw [lt (Ad9 h2)]
   simp_arith [Ae3,Ae4,h2]
  ·obtain⟨ε',l1,z,l2⟩:=lf (Ad3 h2)
   subst l2
   rw [l1]
   have b0:(if([]:List T).length<=big then some (T.tup []) else none)=some (T.tup []):=rfl
   simp_arith [Ae3,Ae4,h2,a1,a2,a4,a7,b0]
   cases stood with
   |nil=>rfl
   |cons s r=>
    obtain⟨d,hd⟩:∃d,p.crops[s]?=some d:=⟨_,Aa4 (hs s (Af8 ..))⟩
    have c1:φEq (rowT (s::r)) (.tup [])=some (.bl false):=rfl
    have c2:φIx (rowT (s::r)) (.int 0)=some (intT s):=aK0 _ 0 _ rfl
    have c3:φIx (.lst (p.crops.map au0)) (intT s)=some (au0 d):=iS0 au0 _ _ _ hd
    have c4:φIx (au0 d) (.int 0)=some (.str d.name):=aK0 _ 0 _ rfl
    have c5:=mI0 true d.name c.bars
    simp_arith [Ae3,Ae4,c1,c2,c3,c4,c5,mp0 hp hd hci]
theorem dd0 (h:t∈bl0 0 n):∃k,k<n/\t=intT k:=by
 obtain⟨k,hk,rfl⟩:=Ac0.mp h
 refine⟨k,Ag5.mp hk,?_⟩
 show T.int (0+(k:Int))=T.int (k:Int)
 rw [Aq6]
theorem ca0 (n:Nat):bl0 0 n=(List.range n).map intT:=by
 unfold bl0
 apply Ak5
 intro k _
 show T.int (0+(k:Int))=T.int (k:Int)
 rw [Aq6]
def onN (q:Nat->Bool):T->Bool
 | .int k=>q k.toNat
 |_=>false
theorem ev0 (q:Nat->Bool)(n:Nat):((bl0 0 n).filter (onN q)).map id=((List.range n).filter q).map intT:=by
 rw [ca0,List.filter_map,Av4]
 congr 1
def cW0 (p:Plot)(soil:Int)(stood:List Nat):List Nat:=(List.range p.crops.length).filter (dt0 p soil stood)
structure Fine (p:Plot):Prop extends Named p where
 gaps:∀c∈p.crops,0<=c.gap
 few:p.crops.length<=5
theorem nT0 (C:Addr)(p:Plot)(hp:Fine p)(soil:Int)(stood:List Nat):
  K4 C [garT C p,.int soil,rowT stood]=some (true,.lst ((cW0 p soil stood).map intT)):=by
 unfold K4 Jb0
 refine(aL0 (ε:=[.sh (garT C p),.sh (.int soil),.sh (rowT stood)]) rfl rfl).trans ?_
 have hf:=hp.few
 have hi:aY0 (aa0 (ay0 φLen (aa0 (eFld C "changes" (bVar 0)) aNil)) aNil) [.sh (garT C p),.sh (.int soil),.sh (rowT stood)]=some (bl0 0 p.crops.length):=by
  simp_arith! [aY0,garT,bY0,Aa1]
  rw [if_pos ⟨by omega,by omega⟩,Ac9]
 have e:=dS0 (n:=1) (bd:=aq0 0) (p:=qB (dX0 C "lets" (J4 C) (eVar 1) (aa0 (eVar 2) (aa0 (eVar 3) (aa0 (eVar 0) aNil))))) (f:=eVar 0) (P:=onN (dt0 p soil stood)) (G:=id) hi
  (by rw [ca0,Aa1,Ag8]; unfold big; omega) λt ht=>by
   obtain⟨k,hk,rfl⟩:=dd0 ht
   have hc:p.crops[k]?=some p.crops[k]:=Aa4 hk
   have l:=rc0 C p soil stood k _ hc (hp.gaps _ (Ak7 hk))
   refine⟨_,rfl,?_,λ_=>rfl⟩
   have n0:(bI0 p).lookup ("lets" :Str)=none:=rfl
   have hq:onN (dt0 p soil stood) (intT k)=dt0 p soil stood k:=by
    show dt0 p soil stood ((k:Int)).toNat=_
    rw [Ac9]
   unfold garT at l
   simp_arith! [Ah4,Ag0,dX0,garT,n0,and_self,l,hq]
 unfold sRet
 rw [e,ev0]
 rfl
theorem qG0 (C:Addr)(p:Plot)(hp:Fine p)(soil:Int)(stood:List Nat)(hs:∀s∈stood,s<p.crops.length)(hsl:stood.length<=1000)(rows:T)(state:T):
  ba0 1 (aY0 (aa0 (ay0 φLen (aa0 (e2 φIx (bVar 0) (eC (.int 2))) aNil)) aNil)) (aq0 0) (qB (eFn (J2 C) (aa0 (eVar 1) (aa0 (eVar 4) (aa0 (eVar 0) aNil))))) (eVar 0) [.sh (aD0 p),.sh state,.sh rows,.sh (bedT (soil,stood))]=some (.lst ((cW0 p soil stood).map intT)):=by
 have hf:=hp.few
 have a1:φIx (aD0 p) (.int 2)=some (.lst (p.crops.map au0)):=aK0 _ 2 _ rfl
 have hi:aY0 (aa0 (ay0 φLen (aa0 (e2 φIx (bVar 0) (eC (.int 2))) aNil)) aNil) [.sh (aD0 p),.sh state,.sh rows,.sh (bedT (soil,stood))]=some (bl0 0 p.crops.length):=by
  simp_arith! [aY0,a1,Aa1]
  rw [if_pos ⟨by omega,by omega⟩,Ac9]
 have e:=dS0 (n:=1) (bd:=aq0 0) (p:=qB (eFn (J2 C) (aa0 (eVar 1) (aa0 (eVar 4) (aa0 (eVar 0) aNil))))) (f:=eVar 0) (P:=onN (dt0 p soil stood)) (G:=id) hi
  (by rw [ca0,Aa1,Ag8]; unfold big; omega) λt ht=>by
   obtain⟨k,hk,rfl⟩:=dd0 ht
   have hc:p.crops[k]?=some p.crops[k]:=Aa4 hk
   have l:=kJ0 C p hp.toNamed soil stood hs k _ hc (hp.gaps _ (Ak7 hk)) hsl
   refine⟨_,rfl,?_,λ_=>rfl⟩
   have hq:onN (dt0 p soil stood) (intT k)=dt0 p soil stood k:=by
    show dt0 p soil stood ((k:Int)).toNat=_
    rw [Ac9]
   simp_arith! [Ah4,Ag0,l,hq]
 rw [e,ev0]
 rfl
def cq0 (rows:List (List Nat))(cs:List Nat):List (List Nat):=rows.flatMap λr=>cs.map λc=>r++ [c]
theorem fI0 (rows:List (List Nat))(r:List Nat)(cs:List Nat):cq0 (rows++ [r]) cs=cq0 rows cs++cs.map λc=>r++ [c]:=by
 unfold cq0
 rw [List.flatMap_append]
 simp
theorem dG0 (cs:List Nat):∀(rows:List (List Nat)),(cq0 rows cs).length=rows.length*cs.length
 | []=>by simp [cq0]
 |r::rows=>by
  have ih:=dG0 cs rows
  unfold cq0 at ih ⊢
  rw [Ao8,Aa5,ih,Aa1,Ac4,Aw5,Nat.add_comm]
theorem mN0 (r:List Nat)(c:Nat)(h:r.length<=1000):cL0 (rowT r) (.tup [intT c])=some (rowT (r++ [c])):=by
 show (if(r.map intT).length+1<=big then some (T.tup (r.map intT++ [intT c])) else none)=_
 rw [if_pos (by rw [Aa1]; unfold big; omega)]
 unfold rowT
 rw [Ac3]
 rfl
theorem pM0 (C:Addr)(rows:List (List Nat))(cs:List Nat)(hr:∀r∈rows,r.length<=1000)(hb:rows.length*cs.length<=10000)(hcs:cs.length<=1000):
  V4 C [.lst (rows.map rowT),.lst (cs.map intT)]=some (true,.lst ((cq0 rows cs).map rowT)):=by
 unfold V4 Yb0
 refine(aL0 (ε:=[.sh (.lst (rows.map rowT)),.sh (.lst (cs.map intT)),.un,.un]) rfl rfl).trans ?_
 obtain⟨ε',l1,z,l2⟩:=bt0 (bd:=aq0 3) (body:=sExt 2 (ba0 1 (iLst (eVar 1)) (aq0 0) bu0 (e2 cL0 (bVar 4) (eTup (aa0 (eVar 0) aNil)))))
  (λk ε=>∃z,ε=[.sh (.lst (rows.map rowT)),.sh (.lst (cs.map intT)),.ow (.lst ((cq0 (rows.take k) cs).map rowT)),z]) (rows.map rowT) 0 [.sh (.lst (rows.map rowT)),.sh (.lst (cs.map intT)),.ow (.lst []),.un] ⟨_,rfl⟩ λi t ε ht ⟨z,he⟩=>by
   subst he
   rw [Af9] at*
   rw [Ab0] at ht
   cases hr0:rows[i]? with
   |none=>rw [hr0] at ht; cases ht
   |some r=>
    rw [hr0] at ht
    cases ht
    have hrl:=hr r (Ac7 hr0)
    have hil:i<rows.length:=(Aa9.mp hr0).1
    have e:=bi0 (n:=1) (it:=iLst (eVar 1)) (bd:=aq0 0) (f:=e2 cL0 (bVar 4) (eTup (aa0 (eVar 0) aNil))) (G:=λt=>match t with| .int c=>rowT (r++ [c.toNat])|_=> .non) (ε:=[.sh (.lst (rows.map rowT)),.sh (.lst (cs.map intT)),.ow (.lst ((cq0 (rows.take i) cs).map rowT)),.sh (rowT r)]) (ts:=cs.map intT) rfl
     (by rw [Aa1]; unfold big; omega) λt ht=>by
      obtain⟨c,hc,rfl⟩:=Ac0.mp ht
      refine⟨_,rfl,?_⟩
      have b0:(if [intT c].length<=big then some (T.tup [intT c]) else none)=some (T.tup [intT c]):=rfl
      simp_arith! [Ah4,Ag0,b0,mN0 r c hrl,Ac9]
    have ee:(cs.map intT).map (λt=>match t with|T.int c=>rowT (r++ [c.toNat])|_=>T.non)=(cs.map λc=>r++ [c]).map rowT:=by
     rw [Ad2,Ad2]
     apply Ak5
     intro c _
     show rowT (r++ [((c:Int)).toNat])=rowT (r++ [c])
     rw [Ac9]
    rw [ee] at e
    refine⟨_,_,rfl,.inl ?_,⟨.sh (rowT r),rfl⟩⟩
    have et:rows.take (i+1)=rows.take i++ [r]:=by rw [Ag9,hr0]; rfl
    have hlen:((cq0 (rows.take i) cs).map rowT).length+((cs.map λc=>r++ [c]).map rowT).length<=big:=by
     rw [Aa1,Aa1,Aa1,dG0,Af7]
     have:min i rows.length*cs.length<=rows.length*cs.length:=Nat.mul_le_mul_right _ (At3 ..)
     unfold big
     omega
    show sExt 2 _ [.sh (.lst (rows.map rowT)),.sh (.lst (cs.map intT)),.ow (.lst ((cq0 (rows.take i) cs).map rowT)),.sh (rowT r)]=_
    unfold sExt
    simp only [Af4,Ae9,e,Aa2]
    rw [if_pos hlen,et,fI0,Ac3]
    rfl
 have b0:(if([]:List T).length<=big then some (T.lst []) else none)=some (T.lst []):=rfl
 simp_arith! [b0,sFor]
 subst l2
 rw [l1,Af9,Aa1,Ae7]
 rfl
theorem mC0 (C:Addr)(rows:List (List Nat))(cs:List Nat)(hr:∀r∈rows,r.length<=1000)(hb:rows.length*cs.length<=10000)(hcs:cs.length<=1000):
  Q5 C [.lst (rows.map rowT),.lst (cs.map intT)]=some (true,.lst ((cq0 rows cs).map rowT)):=by
 unfold Q5 wd0
 refine(aL0 (ε:=[.sh (.lst (rows.map rowT)),.sh (.lst (cs.map intT)),.un,.un,.un]) rfl rfl).trans ?_
 obtain⟨ε',l1,y,z,l2⟩:=bt0 (bd:=aq0 3) (body:=sFor (iLst (eVar 1)) (aq0 4) (sApp 2 (e2 cL0 (bVar 3) (eTup (aa0 (eVar 4) aNil)))))
  (λk ε=>∃y z,ε=[.sh (.lst (rows.map rowT)),.sh (.lst (cs.map intT)),.ow (.lst ((cq0 (rows.take k) cs).map rowT)),y,z]) (rows.map rowT) 0 [.sh (.lst (rows.map rowT)),.sh (.lst (cs.map intT)),.ow (.lst []),.un,.un] ⟨_,_,rfl⟩ λi t ε ht ⟨y,z,he⟩=>by
   subst he
   rw [Af9] at*
   rw [Ab0] at ht
   cases hr0:rows[i]? with
   |none=>rw [hr0] at ht; cases ht
   |some r=>
    rw [hr0] at ht
    cases ht
    have hrl:=hr r (Ac7 hr0)
    have hil:i<rows.length:=(Aa9.mp hr0).1
    have hlen:(cq0 (rows.take i) cs).length+cs.length<=20000:=by
     rw [dG0,Af7]
     have:min i rows.length*cs.length<=rows.length*cs.length:=Nat.mul_le_mul_right _ (At3 ..)
     omega
    obtain⟨ε1,k1,z1,k2⟩:=bt0 (bd:=aq0 4) (body:=sApp 2 (e2 cL0 (bVar 3) (eTup (aa0 (eVar 4) aNil))))
     (λk ε=>∃z,ε=[.sh (.lst (rows.map rowT)),.sh (.lst (cs.map intT)),.ow (.lst ((cq0 (rows.take i) cs++(cs.take k).map λc=>r++ [c]).map rowT)),.sh (rowT r),z]) (cs.map intT) 0
     [.sh (.lst (rows.map rowT)),.sh (.lst (cs.map intT)),.ow (.lst ((cq0 (rows.take i) cs).map rowT)),.sh (rowT r),z] ⟨z,by rw [Al5,List.map_nil,Ag7]⟩ λj t ε ht ⟨w,he⟩=>by
      subst he
      rw [Af9] at*
      rw [Ab0] at ht
      cases hc0:cs[j]? with
      |none=>rw [hc0] at ht; cases ht
      |some c=>
       rw [hc0] at ht
       cases ht
       have hjl:j<cs.length:=(Aa9.mp hc0).1
       refine⟨_,_,rfl,.inl ?_,⟨.sh (intT c),rfl⟩⟩
       have et:cs.take (j+1)=cs.take j++ [c]:=by rw [Ag9,hc0]; rfl
       have b0:(if [intT c].length<=big then some (T.tup [intT c]) else none)=some (T.tup [intT c]):=rfl
       have hl2:((cq0 (rows.take i) cs++(cs.take j).map λc=>r++ [c]).map rowT).length<big:=by
        rw [Aa1,Aa5,Aa1,Af7]
        unfold big
        omega
       show sApp 2 _ [.sh (.lst (rows.map rowT)),.sh (.lst (cs.map intT)),.ow (.lst ((cq0 (rows.take i) cs++(cs.take j).map λc=>r++ [c]).map rowT)),.sh (rowT r),.sh (intT c)]=_
       unfold sApp
       simp_arith! [b0,mN0 r c hrl]
       rw [if_pos hl2,et,Ac3,Ac3,Ac3,Ac3,At1]
       rfl
    subst k2
    refine⟨_,_,rfl,.inl ?_,⟨.sh (rowT r),z1,rfl⟩⟩
    have et:rows.take (i+1)=rows.take i++ [r]:=by rw [Ag9,hr0]; rfl
    show sFor _ _ _ [.sh (.lst (rows.map rowT)),.sh (.lst (cs.map intT)),.ow (.lst ((cq0 (rows.take i) cs).map rowT)),.sh (rowT r),z]=_
    unfold sFor
    simp_arith! [As0]
    rw [k1,Af9,Aa1,Ae7,et,fI0]
 have b0:(if([]:List T).length<=big then some (T.lst []) else none)=some (T.lst []):=rfl
 simp_arith! [b0,sFor]
 subst l2
 rw [l1,Af9,Aa1,Ae7]
 rfl
def cf0 (p:Plot)(row:List Nat):Bool:=p.wants.all λx=>decide (x.2.1<=(row.count (num p x.1):Int)) && decide ((row.count (num p x.1):Int)<=x.2.2)
theorem lH0 (xs:List Nat)(i:Nat):do0 (rowT xs) [intT i]=some (.int (xs.count i:Int)):=by
 show (if aZ0 (intT i) && (xs.map intT).all aZ0 then _ else _)=_
 rw [jJ0,if_pos (show (aZ0 (intT i) && true)=true from rfl)]
 congr 3
 induction xs with
 |nil=>rfl
 |cons x xs ih=>
  rw [Ac2,At8,ih,List.count_cons]
  congr 1
  show (if((x:Int)==(i:Int))=true then 1 else 0)=_
  by_cases h:x=i
  ·subst h; simp
  ·have h1:((x:Int)==(i:Int))=false:=by simp; omega
   have h2:(x==i)=false:=by simpa using h
   rw [h1,h2]
def Pw (row:List Nat):T->Bool
 | .tup [.int n,.int a,.int b]=> !(decide (a<=(row.count n.toNat:Int)) && decide ((row.count n.toNat:Int)<=b))
 |_=>false
theorem ol0 (C:Addr)(p:Plot)(row:List Nat):W4 C [garT C p,rowT row]=some (false,.bl (cf0 p row)):=by
 unfold W4 Kb0
 refine(aL0 (ε:=[.sh (garT C p),.sh (rowT row),.un,.un,.un]) rfl rfl).trans ?_
 obtain⟨lt,lf⟩:=eG0 (o:=false) (r:=.bl false) (bd:=jC0 2 3 4) (body:=sIf (qNot (qB (dn0 φLe φLe (bVar 3) (eBM do0 (bVar 1) (aa0 (bVar 2) aNil)) (bVar 4)))) (sRet false (eC (.bl false))) sNx)
  (λε=>∃x y z,ε=[.sh (garT C p),.sh (rowT row),x,y,z]) (Pw row) (p.wants.map λx=> .tup [intT (num p x.1),.int x.2.1,.int x.2.2]) [.sh (garT C p),.sh (rowT row),.un,.un,.un] ⟨_,_,_,rfl⟩ λt ε ht ⟨x,y,z,he⟩=>by
   subst he
   obtain⟨w,hw,rfl⟩:=Ac0.mp ht
   have b1:=lH0 row (num p w.1)
   have b2:Pw row (.tup [intT (num p w.1),.int w.2.1,.int w.2.2])= !(decide (w.2.1<=(row.count (num p w.1):Int)) && decide ((row.count (num p w.1):Int)<=w.2.2)):=by
    show (!(decide (w.2.1<=(row.count ((num p w.1:Nat):Int).toNat:Int)) && decide ((row.count ((num p w.1:Nat):Int).toNat:Int)<=w.2.2)))=_
    rw [Ac9]
   refine⟨_,rfl,λq=> ?_,λq=> ?_⟩
   ·rw [b2] at q
    simp_arith! [dn0,b1]
    by_cases h1:w.2.1<=(row.count (num p w.1):Int)
    ·simp only [h1,sSeq,sIf,sNx,sSet,cT0,sRet,fv0,bd0,qB,qNot,qAnd,qOr,e1,e2,bVar,eVar,eC,eFld,ay0,eTup,eLst,aa0,aNil,eOr,eAnd,eNot,eSlT,eSlL,bk0,eBM,iLst,iTpl,Af4,Ae9,Aa2,Ad5,Al1,Ah2,Ap4,Ao5,Ad6,dj0,φAdd,φSub,φLt,φLe,φGt,φGe,φLen,An8,Ai1,Ak3,Aj4,Al2,An1,As0,Ae3,Ae4,noD,eFn,eFnF,isI] at q ⊢
     simp only [Bool.not_eq_true',decide_eq_false_iff_not] at q
     simp_arith! [q]
    ·simp_arith! [h1]
   ·rw [b2] at q
    simp_arith! [dn0,b1]
    by_cases h1:w.2.1<=(row.count (num p w.1):Int)
    ·simp only [h1,sSeq,sIf,sNx,sSet,cT0,sRet,fv0,bd0,qB,qNot,qAnd,qOr,e1,e2,bVar,eVar,eC,eFld,ay0,eTup,eLst,aa0,aNil,eOr,eAnd,eNot,eSlT,eSlL,bk0,eBM,iLst,iTpl,Af4,Ae9,Aa2,Ad5,Al1,Ah2,Ap4,Ao5,Ad6,dj0,φAdd,φSub,φLt,φLe,φGt,φGe,φLen,An8,Ai1,Ak3,Aj4,Al2,An1,As0,Ae3,Ae4,noD,eFn,eFnF,isI] at q ⊢
     simp only [Bool.not_eq_false',Ag4] at q
     simp_arith! [q]
     exact⟨_,rfl,_,_,_,rfl⟩
    ·simp only [h1,sSeq,sIf,sNx,sSet,cT0,sRet,fv0,bd0,qB,qNot,qAnd,qOr,e1,e2,bVar,eVar,eC,eFld,ay0,eTup,eLst,aa0,aNil,eOr,eAnd,eNot,eSlT,eSlL,bk0,eBM,iLst,iTpl,Af4,Ae9,Aa2,Ad5,Al1,Ah2,Ap4,Ao5,Ad6,dj0,φAdd,φSub,φLt,φLe,φGt,φGe,φLen,An8,Ai1,Ak3,Aj4,Al2,An1,As0,Ae3,Ae4,noD,eFn,eFnF,isI] at q
     cases q
 have ha:(p.wants.map λx=>T.tup [intT (num p x.1),.int x.2.1,.int x.2.2]).any (Pw row)= !cf0 p row:=by
  unfold cf0
  rw [At5,Au5]
  congr 1
 rw [ha] at lt lf
 have hw:iTpl (eFld C "wants" (bVar 0)) [.sh (garT C p),.sh (rowT row),.un,.un,.un]=some (p.wants.map λx=>T.tup [intT (num p x.1),.int x.2.1,.int x.2.2]):=by
  simp_arith! [garT,qZ0]
 cases hq:cf0 p row with
 |false=>
  have:=lt (by rw [hq]; rfl)
  unfold sSeq sFor
  rw [hw,Aa2,this]
  rfl
 |true=>
  obtain⟨ε',k1,x,y,z,k2⟩:=lf (by rw [hq]; rfl)
  unfold sSeq sFor
  rw [hw,Aa2,k1]
  rfl
structure Good (p:Plot):Prop extends Fine p where
 keys:(p.wants.map (·.1)).Nodup
theorem fQ0:∀(ws:List (Str × Int × Int)),(ws.map (·.1)).Nodup->∀x∈ws,(ws.map λx=>(x.1,T.tup [.int x.2.1,.int x.2.2])).lookup x.1=some (.tup [.int x.2.1,.int x.2.2])
 | [],_,x,hx=>nomatch hx
 |w::ws,nd,x,hx=>by
  rw [Ac2,Ae8] at nd
  rw [Ac2,Ac5]
  rcases Ab2.mp hx with rfl|hx
  ·simp
  ·have hne:(x.1==w.1)=false:=by
    rw [beq_eq_false_iff_ne]
    intro z
    exact nd.1 (z▸List.mem_map_of_mem hx)
   rw [hne]
   exact fQ0 ws nd.2 x hx
theorem hX0 (hp:Named p)(row:List Nat)(hrow:∀r∈row,r<p.crops.length)(k:Str)(hk:k∈p.names):
  dT0 (.lst (row.map λr=> .str (p.names.getD r k))) [.str k]=some (.int (row.count (num p k):Int)):=by
 have fl:(row.map λr=>T.str (p.names.getD r k)).all aZ0=true:=by
  rw [Aw1]
  exact An4.mpr λ_ _=>rfl
 show (if aZ0 (.str k) && (row.map λr=>T.str (p.names.getD r k)).all aZ0 then _ else _)=_
 rw [fl,if_pos (show (aZ0 (.str k) && true)=true from rfl)]
 congr 3
 rw [Au7]
 unfold List.count
 apply List.countP_congr
 intro r hr
 have hl:=hrow r hr
 have hl':r<p.names.length:=by simpa using hl
 have hc:p.crops[r]?=some p.crops[r]:=Aa4 hl
 have hn:=ix0 hp hc
 have hg:p.names.getD r k=p.crops[r].name:=by
  rw [Af1,Ab0,hc]
  rfl
 show (p.names.getD r k==k)=true↔(r==num p k)=true
 rw [hg,beq_iff_eq,beq_iff_eq]
 constructor
 ·intro z; rw [<- z]; exact hn.symm
 ·intro z
  have hl2:p.names.idxOf k<p.names.length:=An2 hk
  have:p.names[p.names.idxOf k]=k:=Ao2 hl2
  have e2:p.names[r]'hl'=k:=by
   have:r=p.names.idxOf k:=z
   subst this
   exact Ao2 hl2
  rw [<- e2]
  simp
def onS (p:Plot):T->T
 | .int k=>match p.crops[k.toNat]? with|some c=> .str c.name|none=> .non
 |_=> .non
theorem oK0 {p:Plot}(h:p.crops[r]?=some c):onS p (intT r)=.str c.name:=by
 show (match p.crops[((r:Int)).toNat]? with|some c=>T.str c.name|none=> .non)=_
 rw [Ac9,h]
def Pv (p:Plot)(row:List Nat):T->Bool
 | .str k=>match p.wants.lookup k with|some ab=>decide ((row.count (num p k):Int)<ab.1)||decide ((row.count (num p k):Int)>ab.2)|none=>false
 |_=>false
theorem mm0:∀(ws:List (Str × Int × Int)),(ws.map (·.1)).Nodup->∀x∈ws,ws.lookup x.1=some x.2
 | [],_,x,hx=>nomatch hx
 |w::ws,nd,x,hx=>by
  rw [Ac2,Ae8] at nd
  rw [Ac5]
  rcases Ab2.mp hx with rfl|hx
  ·simp
  ·have hne:(x.1==w.1)=false:=by
    rw [beq_eq_false_iff_ne]
    intro z
    exact nd.1 (z▸List.mem_map_of_mem hx)
   rw [hne]
   exact mm0 ws nd.2 x hx
theorem lu0 (C:Addr)(p:Plot)(hp:Good p)(row:List Nat)(hrow:∀r∈row,r<p.crops.length)(hl:row.length<=1000):J5 C [aD0 p,rowT row]=some (false,.bl (cf0 p row)):=by
 unfold J5 xd0
 refine(aL0 (ε:=[.sh (aD0 p),.sh (rowT row),.un,.un]) rfl rfl).trans ?_
 have a1:φIx (aD0 p) (.int 2)=some (.lst (p.crops.map au0)):=aK0 _ 2 _ rfl
 have a2:φIx (aD0 p) (.int 3)=some (aP0 p.wants):=aK0 _ 3 _ rfl
 have en:=bi0 (n:=1) (it:=iTpl (eVar 1)) (bd:=aq0 0) (f:=e2 φIx (e2 φIx (e2 φIx (bVar 1) (eC (.int 2))) (bVar 0)) (eC (.int 0))) (G:=onS p) (ε:=[.sh (aD0 p),.sh (rowT row),.un,.un]) (ts:=row.map intT) rfl
  (by rw [Aa1]; unfold big; omega) λt ht=>by
   obtain⟨r,hr,rfl⟩:=Ac0.mp ht
   have hrr:=hrow r hr
   have hc:p.crops[r]?=some p.crops[r]:=Aa4 hrr
   have b1:φIx (.lst (p.crops.map au0)) (intT r)=some (au0 p.crops[r]):=iS0 au0 _ _ _ hc
   have b2:φIx (au0 p.crops[r]) (.int 0)=some (.str p.crops[r].name):=aK0 _ 0 _ rfl
   refine⟨_,rfl,?_⟩
   simp_arith! [Ah4,Ag0,a1,b1,b2,oK0 hc]
 obtain⟨lt,lf⟩:=eG0 (o:=false) (r:=.bl false) (bd:=aq0 3) (body:=sIf (qOr (qB (e2 φLt (eBM dT0 (bVar 2) (aa0 (bVar 3) aNil)) (e2 φIx (e2 ip0 (e2 φIx (bVar 0) (eC (.int 3))) (bVar 3)) (eC (.int 0))))) (qB (e2 φGt (eBM dT0 (bVar 2) (aa0 (bVar 3) aNil)) (e2 φIx (e2 ip0 (e2 φIx (bVar 0) (eC (.int 3))) (bVar 3)) (eC (.int 1)))))) (sRet false (eC (.bl false))) sNx)
  (λε=>∃z,ε=[.sh (aD0 p),.sh (rowT row),.sh (.lst ((row.map intT).map (onS p))),z]) (Pv p row) (p.wants.map λx=> .str x.1) [.sh (aD0 p),.sh (rowT row),.sh (.lst ((row.map intT).map (onS p))),.un] ⟨_,rfl⟩ λt ε ht ⟨z,he⟩=>by
   subst he
   obtain⟨w,hw,rfl⟩:=Ac0.mp ht
   have hk:=hp.wants w hw
   have e0:(row.map intT).map (onS p)=row.map λr=> .str (p.names.getD r w.1):=by
    rw [Ad2]
    apply Ak5
    intro r hr
    have hrr:=hrow r hr
    have hc:p.crops[r]?=some p.crops[r]:=Aa4 hrr
    show onS p (intT r)=_
    rw [oK0 hc,Af1,Ab0,hc]
    rfl
   have b1:=hX0 hp.toNamed row hrow w.1 hk
   rw [<- e0] at b1
   have b2:ip0 (aP0 p.wants) (.str w.1)=some (.tup [.int w.2.1,.int w.2.2]):=fQ0 p.wants hp.keys w hw
   have b3:φIx (.tup [.int w.2.1,.int w.2.2]) (.int 0)=some (.int w.2.1):=aK0 _ 0 _ rfl
   have b4:φIx (.tup [.int w.2.1,.int w.2.2]) (.int 1)=some (.int w.2.2):=aK0 _ 1 _ rfl
   have b5:Pv p row (.str w.1)=(decide ((row.count (num p w.1):Int)<w.2.1)||decide ((row.count (num p w.1):Int)>w.2.2)):=by
    show (match p.wants.lookup w.1 with|some ab=>_|none=>false)=_
    rw [mm0 p.wants hp.keys w hw]
   rw [b5]
   refine⟨_,rfl,λq=> ?_,λq=> ?_⟩
   ·simp_arith! [a2,b1,b2,b3,b4]
    by_cases h1:(row.count (num p w.1):Int)<w.2.1
    ·simp_arith! [h1]
    ·simp only [h1,sSeq,sIf,sNx,sSet,cT0,sRet,fv0,bd0,qB,qNot,qAnd,qOr,e1,e2,bVar,eVar,eC,eFld,ay0,eTup,eLst,aa0,aNil,eOr,eAnd,eNot,eSlT,eSlL,bk0,eBM,iLst,iTpl,Af4,Ae9,Aa2,Ad5,Al1,Ah2,Ap4,Ao5,Ad6,dj0,φAdd,φSub,φLt,φLe,φGt,φGe,φLen,An8,Ai1,Ak3,Aj4,Al2,An1,As0,Ae3,Ae4,noD,eFn,eFnF,isI,Aw0,Ag4] at q ⊢
     simp only [gt_iff_lt] at q
     simp_arith! [q]
   ·simp_arith! [a2,b1,b2,b3,b4]
    simp only [Bool.or_eq_false_iff,decide_eq_false_iff_not,gt_iff_lt] at q
    simp_arith! [q.1,q.2]
    exact⟨_,rfl,_,rfl⟩
 have ha:(p.wants.map λx=>T.str x.1).any (Pv p row)= !cf0 p row:=by
  unfold cf0
  rw [At5,Au5]
  rw [Ak0,Ap8,Ap8]
  have key:∀x∈p.wants,Pv p row (.str x.1)= !(decide (x.2.1<=(row.count (num p x.1):Int)) && decide ((row.count (num p x.1):Int)<=x.2.2)):=λx hx=>by
   show (match p.wants.lookup x.1 with|some ab=>_|none=>false)=_
   rw [mm0 p.wants hp.keys x hx]
   show (decide ((row.count (num p x.1):Int)<x.2.1)||decide ((row.count (num p x.1):Int)>x.2.2))=_
   rw [Bool.not_and,<- decide_not,<- decide_not]
   congr 1<;>rw [Aq1]<;>omega
  constructor
  ·rintro⟨x,hx,h⟩; exact⟨x,hx,(key x hx).symm.trans h⟩
  ·rintro⟨x,hx,h⟩; exact⟨x,hx,(key x hx).trans h⟩
 rw [ha] at lt lf
 have hw:iKey (e2 φIx (bVar 0) (eC (.int 3))) [.sh (aD0 p),.sh (rowT row),.sh (.lst ((row.map intT).map (onS p))),.un]=some (p.wants.map λx=>T.str x.1):=by
  simp_arith! [iKey,a2,aP0,Ad2]
  rfl
 unfold sSeq sSet
 rw [en]
 simp only [Ad5,Aa2,Ae4,Ae3]
 unfold sFor
 rw [hw,Aa2]
 cases hq:cf0 p row with
 |false=>
  rw [lt (by rw [hq]; rfl)]
  rfl
 |true=>
  obtain⟨ε',k1,z,k2⟩:=lf (by rw [hq]; rfl)
  rw [k1]
  rfl
abbrev Stt:=List (Int × List Nat)
def cJ0 (p:Plot)(s:Stt):List (List Nat):=s.foldl (λrows b=>cq0 rows (cW0 p b.1 b.2)) [[]]
theorem dh0 (p:Plot)(s:Stt)(b:Int × List Nat):cJ0 p (s++ [b])=cq0 (cJ0 p s) (cW0 p b.1 b.2):=by
 unfold cJ0
 rw [List.foldl_append]
 rfl
def mayM (p:Plot)(s:Stt):List (List Nat):=(cJ0 p s).filter (cf0 p)
theorem fa0 (p:Plot)(a:Int)(b:List Nat):(cW0 p a b).length<=p.crops.length:=by
 unfold cW0
 exact Ac6 (Av7 ..) (by rw [Ag8]; exact Ab1 _)
theorem nP0 (h:c∈cW0 p a b):c<p.crops.length:=Ag5.mp (Ai8.mp h).1
theorem dO0 (p:Plot)(h:p.crops.length<=5):∀(n:Nat) (s:Stt),s.length=n->(cJ0 p s).length<=5^n/\∀r∈cJ0 p s,r.length=n/\∀c∈r,c<p.crops.length:=by
 intro n
 induction n with
 |zero=>
  intro s hs
  obtain rfl:=Ae2 hs
  refine⟨Ab1 _,λr hr=> ?_⟩
  obtain rfl:r=[]:=Aa6.mp hr
  exact⟨rfl,λc hc=>nomatch hc⟩
 |succ n ih=>
  intro s hs
  have hne:s≠ []:=λz=>by rw [z] at hs; cases hs
  obtain⟨s',b,rfl⟩:∃s' b,s=s'++ [b]:=⟨s.dropLast,s.getLast hne,(Af0 hne).symm⟩
  rw [Aa5,Ab5] at hs
  obtain⟨h1,h2⟩:=ih s' (by omega)
  rw [dh0]
  refine⟨?_,λr hr=> ?_⟩
  ·rw [dG0,Nat.pow_succ]
   exact Av8 h1 (Ac6 (fa0 ..) h)
  ·obtain⟨q,hq,hr⟩:=Ap9.mp hr
   obtain⟨c,hc,rfl⟩:=Ac0.mp hr
   obtain⟨h3,h4⟩:=h2 q hq
   refine⟨by rw [Aa5,h3]; rfl,λd hd=> ?_⟩
   rcases Ad8.mp hd with hd|hd
   ·exact h4 d hd
   ·rw [Aa6.mp hd]; exact nP0 hc
def kU0 (ts:List T):List Nat:=ts.map λt=>match t with| .int k=>k.toNat|_=>0
theorem hz0 (xs:List Nat):kU0 (xs.map intT)=xs:=by
 unfold kU0
 rw [Ad2]
 have:((λt=>match t with|T.int k=>k.toNat|_=>0)∘intT)=(id:Nat->Nat):=funext λk=>Ac9 k
 rw [this,Av4]
def onR (q:List Nat->Bool):T->Bool
 | .tup ts=>q (kU0 ts)
 |_=>false
theorem ic0 (q:List Nat->Bool)(xs:List Nat):onR q (rowT xs)=q xs:=by
 show q (kU0 (xs.map intT))=q xs
 rw [hz0]
theorem eT0 (q:List Nat->Bool)(rows:List (List Nat)):((rows.map rowT).filter (onR q)).map id=(rows.filter q).map rowT:=by
 rw [Av4,List.filter_map]
 congr 1
 exact List.filter_congr λr _=>ic0 q r
theorem cV0 (h:n<=3):5^n<=125:=by
 rcases n with _|_|_|_|n
 all_goals first|decide|omega
theorem rv0 (C:Addr)(p:Plot)(hp:Good p)(s:Stt)(hs:s.length<=3):Y7 C [garT C p,as0 s]=some (true,.lst ((mayM p s).map rowT)):=by
 unfold Y7 jc0
 refine(aL0 (ε:=[.sh (garT C p),.sh (as0 s),.un,.un,.un]) rfl rfl).trans ?_
 have n0:(bI0 p).lookup ("crops_for" :Str)=none:=rfl
 have n1:(bI0 p).lookup ("meets_wants" :Str)=none:=rfl
 obtain⟨ε',l1,y,z,l2⟩:=bt0 (bd:=cu0 3 4) (body:=sSet 2 (eFnF (V4 C) (aa0 (eVar 2) (aa0 (fV0 C "crops_for" (K4 C) (eVar 0) (aa0 (eVar 3) (aa0 (eVar 4) aNil))) aNil))))
  (λk ε=>∃y z,ε=[.sh (garT C p),.sh (as0 s),.sh (.lst ((cJ0 p (s.take k)).map rowT)),y,z]) (s.map bedT) 0 [.sh (garT C p),.sh (as0 s),.sh (.lst [.tup []]),.un,.un] ⟨_,_,rfl⟩ λi t ε ht ⟨y,z,he⟩=>by
   subst he
   rw [Af9] at*
   rw [Ab0] at ht
   cases hb:s[i]? with
   |none=>rw [hb] at ht; cases ht
   |some b=>
    rw [hb] at ht
    cases ht
    have hil:i<s.length:=(Aa9.mp hb).1
    have et:s.take (i+1)=s.take i++ [b]:=by rw [Ag9,hb]; rfl
    obtain⟨h1,h2⟩:=dO0 p hp.few i (s.take i) (by rw [Af7]; omega)
    have hcl:=Ac6 (fa0 p b.1 b.2) hp.few
    have hpw:=cV0 (n:=i) (by omega)
    have c1:=nT0 C p hp.toFine b.1 b.2
    have c2:=pM0 C (cJ0 p (s.take i)) (cW0 p b.1 b.2) (λr hr=>by have:=(h2 r hr).1; omega) (Ac6 (Av8 (Ac6 h1 hpw) hcl) (by decide)) (by omega)
    unfold garT at c1
    refine⟨[.sh (garT C p),.sh (as0 s),.sh (.lst ((cJ0 p (s.take i)).map rowT)),.sh (.int b.1),.sh (rowT b.2)],_,rfl,.inl ?_,⟨.sh (.int b.1),.sh (rowT b.2),rfl⟩⟩
    simp_arith! [fV0,garT,n0,and_self,c1,c2,et,dh0]
 have b0:(if([]:List T).length<=big then some (T.tup []) else none)=some (T.tup []):=rfl
 have b1:(if([T.tup []]:List T).length<=big then some (T.lst [T.tup []]) else none)=some (T.lst [T.tup []]):=rfl
 subst l2
 rw [Af9,Aa1,Ae7] at l1
 obtain⟨h1,h2⟩:=dO0 p hp.few s.length s rfl
 have e:=dS0 (n:=1) (it:=iLst (eVar 2)) (bd:=aq0 0) (p:=qB (dX0 C "meets_wants" (W4 C) (eVar 1) (aa0 (eVar 0) aNil))) (f:=eVar 0) (P:=onR (cf0 p)) (G:=id) (ε:=[.sh (garT C p),.sh (as0 s),.sh (.lst ((cJ0 p s).map rowT)),y,z]) (ts:=(cJ0 p s).map rowT) rfl
  (by rw [Aa1]; have:=cV0 hs; unfold big; omega) λt ht=>by
   obtain⟨r,hr,rfl⟩:=Ac0.mp ht
   have m:=ol0 C p r
   refine⟨_,rfl,?_,λ_=>rfl⟩
   unfold garT at m
   simp_arith! [Ah4,Ag0,dX0,garT,n1,and_self,m,ic0]
 rw [eT0] at e
 simp only [sSeq,sSet,eLst,aa0,eTup,aNil,Aa2,b0,b1,Ad5,Ae4,Ae3,sFor,iTpl,eVar,Af4,Ae9,as0]
 unfold as0 at l1
 rw [l1]
 simp only [Aa2,sRet]
 unfold as0 at e
 rw [e]
 rfl
theorem pD0 {gs:List T->Option (Bool × T)}{E:En->Option T}(h1:eVar j ε=some r)(hE:E ε=some t)(hg:gs [r,t]=some (true,u)):sSet i (eFnF gs (aa0 (eVar j) (aa0 E aNil))) ε=some (.nx (ε.set i (.sh u))):=by
 unfold sSet eFnF aa0 aNil
 simp only [h1,hE,hg,Aa2,Ad5]
theorem hx0 (C:Addr)(p:Plot)(hp:Good p)(s:Stt)(hs:s.length<=3)(hst:∀b∈s,b.2.length<=1000/\∀c∈b.2,c<p.crops.length):V2 C [aD0 p,as0 s]=some (true,.lst ((mayM p s).map rowT)):=by
 unfold V2 Zd0
 refine(aL0 (ε:=[.sh (aD0 p),.sh (as0 s),.un,.un]) rfl rfl).trans ?_
 obtain⟨ε',l1,z,l2⟩:=bt0 (bd:=aq0 3) (body:=sSet 2 (eFnF (Q5 C) (aa0 (eVar 2) (aa0 (ba0 1 (aY0 (aa0 (ay0 φLen (aa0 (e2 φIx (bVar 0) (eC (.int 2))) aNil)) aNil)) (aq0 0) (qB (eFn (J2 C) (aa0 (eVar 1) (aa0 (eVar 4) (aa0 (eVar 0) aNil))))) (eVar 0)) aNil))))
  (λk ε=>∃z,ε=[.sh (aD0 p),.sh (as0 s),.sh (.lst ((cJ0 p (s.take k)).map rowT)),z]) (s.map bedT) 0 [.sh (aD0 p),.sh (as0 s),.sh (.lst [.tup []]),.un] ⟨_,rfl⟩ λi t ε ht ⟨z,he⟩=>by
   subst he
   rw [Af9] at*
   rw [Ab0] at ht
   cases hb:s[i]? with
   |none=>rw [hb] at ht; cases ht
   |some b=>
    rw [hb] at ht
    cases ht
    have hil:i<s.length:=(Aa9.mp hb).1
    obtain⟨hb1,hb2⟩:=hst b (Ac7 hb)
    have et:s.take (i+1)=s.take i++ [b]:=by rw [Ag9,hb]; rfl
    obtain⟨h1,h2⟩:=dO0 p hp.few i (s.take i) (by rw [Af7]; omega)
    have hcl:=Ac6 (fa0 p b.1 b.2) hp.few
    have hpw:=cV0 (n:=i) (by omega)
    have c1:=qG0 C p hp.toFine b.1 b.2 hb2 hb1 (.lst ((cJ0 p (s.take i)).map rowT)) (as0 s)
    have c2:=mC0 C (cJ0 p (s.take i)) (cW0 p b.1 b.2) (λr hr=>by have:=(h2 r hr).1; omega) (Ac6 (Av8 (Ac6 h1 hpw) hcl) (by decide)) (by omega)
    refine⟨[.sh (aD0 p),.sh (as0 s),.sh (.lst ((cJ0 p (s.take i)).map rowT)),.sh (bedT b)],_,rfl,.inl ?_,⟨.sh (bedT b),rfl⟩⟩
    have c3:bedT (b.1,b.2)=bedT b:=rfl
    rw [c3] at c1
    rw [et,dh0]
    exact pD0 rfl c1 c2
 have b0:(if([]:List T).length<=big then some (T.tup []) else none)=some (T.tup []):=rfl
 have b1:(if([T.tup []]:List T).length<=big then some (T.lst [T.tup []]) else none)=some (T.lst [T.tup []]):=rfl
 subst l2
 rw [Af9,Aa1,Ae7] at l1
 obtain⟨h1,h2⟩:=dO0 p hp.few s.length s rfl
 have e:=dS0 (n:=1) (it:=iLst (eVar 2)) (bd:=aq0 0) (p:=qB (eFn (J5 C) (aa0 (eVar 1) (aa0 (eVar 0) aNil)))) (f:=eVar 0) (P:=onR (cf0 p)) (G:=id) (ε:=[.sh (aD0 p),.sh (as0 s),.sh (.lst ((cJ0 p s).map rowT)),z]) (ts:=(cJ0 p s).map rowT) rfl
  (by rw [Aa1]; have:=cV0 hs; unfold big; omega) λt ht=>by
   obtain⟨r,hr,rfl⟩:=Ac0.mp ht
   have m:=lu0 C p hp r (h2 r hr).2 (by have:=(h2 r hr).1; omega)
   refine⟨_,rfl,?_,λ_=>rfl⟩
   simp_arith! [Ah4,Ag0,m,ic0]
 rw [eT0] at e
 simp only [sSeq,sSet,eLst,aa0,eTup,aNil,Aa2,b0,b1,Ad5,Ae4,Ae3,sFor,iTpl,eVar,Af4,Ae9,as0]
 unfold as0 at l1
 rw [l1]
 simp only [Aa2,sRet]
 unfold as0 at e
 rw [e]
 rfl
theorem dg0 {E:En->Option T}{φ:List T->Option T}(hE:E ε=some t)(hp:φ [t]=some u):(sRet false (ay0 φ (aa0 E aNil)) ε).bind dj0=some (false,u):=by
 unfold sRet ay0 aa0 aNil
 simp only [hE,hp,Aa2,Ad5,dj0]
def aE0 (p:Plot):Stt:=p.soils.map λx=>(x,[])
def rd0:T->T
 | .int i=>bedT (i,[])
 |_=> .non
theorem gI0 (p:Plot):((p.soils.map T.int).map rd0)=(aE0 p).map bedT:=by
 unfold aE0
 rw [Ad2,Ad2]
 rfl
theorem on0 (C:Addr)(p:Plot)(h:p.soils.length<=1000):V7 C [garT C p]=some (false,as0 (aE0 p)):=by
 unfold V7 xb0
 refine(aL0 (ε:=[.sh (garT C p)]) rfl rfl).trans ?_
 have hi:iTpl (eFld C "soils" (bVar 0)) [.sh (garT C p)]=some (p.soils.map T.int):=by simp_arith! [garT,pB0]
 have e:=bi0 (n:=1) (bd:=aq0 0) (f:=eTup (aa0 (eVar 0) (aa0 (eTup aNil) aNil))) (G:=rd0) hi (by rw [Aa1]; unfold big; omega) λt ht=>by
  obtain⟨x,hx,rfl⟩:=Ac0.mp ht
  exact⟨_,rfl,rfl⟩
 rw [gI0] at e
 exact dg0 e rfl
theorem dx0 (C:Addr)(p:Plot)(h:p.soils.length<=1000):Q3 C [aD0 p]=some (false,as0 (aE0 p)):=by
 unfold Q3 ze0
 refine(aL0 (ε:=[.sh (aD0 p)]) rfl rfl).trans ?_
 have a1:φIx (aD0 p) (.int 0)=some (.lst (p.soils.map T.int)):=aK0 _ 0 _ rfl
 have hi:iLst (e2 φIx (bVar 0) (eC (.int 0))) [.sh (aD0 p)]=some (p.soils.map T.int):=by simp_arith! [a1]
 have e:=bi0 (n:=1) (bd:=aq0 0) (f:=eTup (aa0 (eVar 0) (aa0 (eTup aNil) aNil))) (G:=rd0) hi (by rw [Aa1]; unfold big; omega) λt ht=>by
  obtain⟨x,hx,rfl⟩:=Ac0.mp ht
  exact⟨_,rfl,rfl⟩
 rw [gI0] at e
 exact dg0 e rfl
theorem av0 {φ:T->T->Option T}{f g:En->Option T}(h1:f ε=some s)(h2:g ε=some t):e2 φ f g ε=φ s t:=by
 unfold e2
 rw [h1,h2]
 rfl
theorem jD0:∀(xs:List Int) (a b:Int),maxI (if a>b then a else b) xs=if maxI a xs>b then maxI a xs else b
 | [],a,b=>rfl
 |x::xs,a,b=>by
  show maxI (if x>(if a>b then a else b) then x else(if a>b then a else b)) xs=if maxI (if x>a then x else a) xs>b then maxI (if x>a then x else a) xs else b
  rw [<- jD0 xs (if x>a then x else a) b]
  congr 1
  repeat' split
  all_goals omega
theorem or0 (p:Plot):maxI 1 (p.crops.map (·.gap))=depth p:=by
 unfold depth
 cases p.crops.map (·.gap) with
 |nil=>rfl
 |cons g gs=>
  show maxI (if g>1 then g else 1) gs=_
  exact jD0 gs g 1
theorem eU0 (p:Plot):1<=depth p:=by
 unfold depth
 split
 ·exact Int.le_refl _
 ·split<;>omega
def toGap:T->T
 | .tup [_,_,_,g,_]=>g
 |_=> .non
theorem mK0 (C:Addr)(p:Plot)(h:p.crops.length<=1000):W5 C [aD0 p]=some (false,.int (depth p)):=by
 unfold W5 Kd0
 refine(aL0 (ε:=[.sh (aD0 p)]) rfl rfl).trans ?_
 have a1:φIx (aD0 p) (.int 2)=some (.lst (p.crops.map au0)):=aK0 _ 2 _ rfl
 have hi:iLst (e2 φIx (bVar 0) (eC (.int 2))) [.sh (aD0 p)]=some (p.crops.map au0):=by simp_arith! [a1]
 have e:=bi0 (n:=1) (bd:=aq0 0) (f:=e2 φIx (bVar 0) (eC (.int 3))) (G:=toGap) hi (by rw [Aa1]; unfold big; omega) λt ht=>by
  obtain⟨c,hc,rfl⟩:=Ac0.mp ht
  have b1:φIx (au0 c) (.int 3)=some (.int c.gap):=aK0 _ 3 _ rfl
  refine⟨_,rfl,?_⟩
  simp_arith! [Ah4,Ag0,b1]
  rfl
 have e3:(p.crops.map au0).map toGap=(p.crops.map (·.gap)).map T.int:=by
  rw [Ad2,Ad2]
  rfl
 rw [e3] at e
 refine dg0 (E:=e2 gr0 (eLst (aa0 (eC (.int 1)) aNil)) _) (t:=.lst (T.int 1::(p.crops.map (·.gap)).map T.int)) ?_ ?_
 ·have b0:eLst (aa0 (eC (.int 1)) aNil) [.sh (aD0 p)]=some (.lst [.int 1]):=rfl
  refine(av0 b0 e).trans ?_
  show (if [T.int 1].length+((p.crops.map (·.gap)).map T.int).length<=big then _ else _)=_
  rw [if_pos (by rw [Aa1,Aa1]; unfold big; simp only [Ac4,Ak1]; omega)]
  rfl
 ·show (ec0 ((1::p.crops.map (·.gap)).map T.int)).bind maxO=_
  rw [hA0]
  show some (T.int (maxI 1 (p.crops.map (·.gap))))=_
  rw [or0]
def bedM (p:Plot)(b:Int × List Nat)(c:Nat):Int × List Nat:=
 let z:=b.1+((p.crops[c]?).map (·.change)).getD 0
 (if z<p.top then z else p.top,(c::b.2).take (depth p).toNat)
theorem sh0 (C:Addr)(p:Plot)(soil:Int)(stood:List Nat)(c:Nat)(hc:c<p.crops.length)(hl:stood.length<=1000):
  Y4 C [garT C p,.int soil,rowT stood,intT c]=some (false,bedT (bedM p (soil,stood) c)):=by
 unfold Y4 kc0
 refine(aL0 (ε:=[.sh (garT C p),.sh (.int soil),.sh (rowT stood),.sh (intT c),.un]) rfl rfl).trans ?_
 have hc':p.crops[c]?=some p.crops[c]:=Aa4 hc
 have e1:φIx (.tup (p.crops.map λc=> .int c.change)) (intT c)=some (.int p.crops[c].change):=ix_tup (λc=> .int c.change) _ _ _ hc'
 have b0:(if([intT c]:List T).length<=big then some (T.tup [intT c]) else none)=some (T.tup [intT c]):=rfl
 have b1:cL0 (.tup [intT c]) (.tup (stood.map intT))=some (.tup ((c::stood).map intT)):=by
  show (if [intT c].length+(stood.map intT).length<=big then _ else _)=_
  rw [if_pos (by rw [Aa1]; unfold big; simp only [Ac4,Ak1]; omega)]
  rfl
 have hd:=eU0 p
 have b2:=ij0 (c::stood) (depth p) (by omega)
 have b3:∀(x y:T),(if([x,y]:List T).length<=big then some (T.tup [x,y]) else none)=some (T.tup [x,y]):=λx y=>rfl
 simp_arith! [garT,f_top,bY0,qW0,rowT,b0,b1,e1,b2,b3,ed0]
 unfold bedM bedT rowT
 simp only [hc',Ad5,Ap6]
def nv0 (x:(Int × List Nat) × Nat):T:=.tup [bedT x.1,intT x.2]
theorem iZ0:∀(s:Stt) (row:List Nat),zipT (s.map bedT) (row.map intT)=(s.zip row).map nv0
 | [],_=>by cases ‹List Nat› <;>rfl
 |_::_,[]=>rfl
 |b::s,c::row=>by
  show T.tup [bedT b,intT c]::zipT (s.map bedT) (row.map intT)=_
  rw [iZ0 s row]
  rfl
def okM (p:Plot)(x:(Int × List Nat) × Nat):Bool:=decide (x.2<p.crops.length) && dt0 p x.1.1 x.1.2 x.2
def pZ0 (p:Plot)(s:Stt)(row:List Nat):Bool:=decide (row.length=s.length) && (s.zip row).all (okM p) && cf0 p row
theorem aG0 {g h:En->Option Fl}(h1:g ε=some (.nx ε1)):sSeq g h ε=h ε1:=by
 unfold sSeq
 rw [h1]
 rfl
theorem cy0 {f:En->Option (List T)}{bd:T->En->Option En}{body:En->Option Fl}(h1:f ε=some ts)(h2:cz0 bd body ts ε=fl):sFor f bd body ε=fl:=by
 unfold sFor
 rw [h1]
 exact h2
def an0 (p:Plot)(s:Stt)(row:List Nat):Stt:=(s.zip row).map λx=>bedM p x.1 x.2
def Gb (p:Plot):T->T
 | .tup [.tup [.int a,.tup st],.int k]=>bedT (bedM p (a,kU0 st) k.toNat)
 |_=> .non
theorem Gb_at (p:Plot)(x:(Int × List Nat) × Nat):Gb p (nv0 x)=bedT (bedM p x.1 x.2):=by
 show bedT (bedM p (x.1.1,kU0 (x.1.2.map intT)) ((x.2:Int)).toNat)=_
 rw [hz0,Ac9]
theorem oA0 (C:Addr)(p:Plot)(hp:Good p)(s:Stt)(row:List Nat)(hs:s.length<=3)(hst:∀b∈s,b.2.length<=1000)(hall:∀x∈s.zip row,okM p x=true):
  q8 C [garT C p,as0 s,rowT row]=some (false,as0 (an0 p s row)):=by
 unfold q8 yc0
 refine(aL0 (ε:=[.sh (garT C p),.sh (as0 s),.sh (rowT row)]) rfl rfl).trans ?_
 have n1:(bI0 p).lookup ("bed_behind" :Str)=none:=rfl
 have hz:oy0 (aa0 (bVar 1) (aa0 (bVar 2) aNil)) [.sh (garT C p),.sh (as0 s),.sh (rowT row)]=some ((s.zip row).map nv0):=by
  rw [<- iZ0]
  rfl
 have e:=bi0 (n:=2) (bd:=cu0 0 1) (f:=dX0 C "bed_behind" (Y4 C) (eVar 2) (aa0 (e2 φIx (bVar 0) (eC (.int 0))) (aa0 (e2 φIx (bVar 0) (eC (.int 1))) (aa0 (eVar 1) aNil)))) (G:=Gb p) hz
  (by rw [Aa1,Aq7]; unfold big; omega) λt ht=>by
   obtain⟨⟨⟨a,st⟩,c⟩,hx,rfl⟩:=Ac0.mp ht
   have hk:=hall _ hx
   have hc:c<p.crops.length:=by
    unfold okM at hk
    rw [Ac8,Ag4] at hk
    exact hk.1
   have hl:=hst (a,st) (An9 hx).1
   have c1:φIx (bedT (a,st)) (.int 0)=some (.int a):=aK0 _ 0 _ rfl
   have c2:φIx (bedT (a,st)) (.int 1)=some (rowT st):=aK0 _ 1 _ rfl
   have l:=sh0 C p a st c hc hl
   unfold garT at l
   rw [Gb_at]
   refine⟨[.sh (bedT (a,st)),.sh (intT c),.sh (garT C p),.sh (as0 s),.sh (rowT row)],rfl,?_⟩
   simp_arith! [dX0,garT,c1,c2,n1,and_self,l]
 have e3:((s.zip row).map nv0).map (Gb p)=(an0 p s row).map bedT:=by
  unfold an0
  rw [Ad2,Ad2]
  apply Ak5
  intro x _
  exact Gb_at p x
 rw [e3] at e
 exact dg0 e rfl
theorem es0 (C:Addr)(p:Plot)(hp:Good p)(s:Stt)(row:List Nat)(hs:s.length<=3)(hst:∀b∈s,b.2.length<=1000)(hl:row.length=s.length)(hrow:∀r∈row,r<p.crops.length):
  Y2 C [aD0 p,as0 s,rowT row]=some (false,as0 (an0 p s row)):=by
 unfold Y2 Vd0
 refine(aL0 (ε:=[.sh (aD0 p),.sh (as0 s),.sh (rowT row),.un,.un,.un]) rfl rfl).trans ?_
 have a1:φIx (aD0 p) (.int 2)=some (.lst (p.crops.map au0)):=aK0 _ 2 _ rfl
 have a2:φIx (aD0 p) (.int 1)=some (.int p.top):=aK0 _ 1 _ rfl
 have hmem:=mK0 C p (by have:=hp.few; omega)
 have hd:=eU0 p
 have b3:∀(x y:T),(if([x,y]:List T).length<=big then some (T.tup [x,y]) else none)=some (T.tup [x,y]):=λx y=>rfl
 obtain⟨ε',l1,y,z,l2⟩:=bt0 (bd:=aq0 4) (body:=sSeq (sSet 5 (ay0 ed0 (aa0 (e2 φIx (bVar 0) (eC (.int 1))) (aa0 (e2 φAdd (e2 φIx (e2 φIx (bVar 1) (bVar 4)) (eC (.int 0))) (e2 φIx (e2 φIx (e2 φIx (bVar 0) (eC (.int 2))) (e2 φIx (bVar 2) (bVar 4))) (eC (.int 1)))) aNil))))
  (sApp 3 (eTup (aa0 (eVar 5) (aa0 (eSlT (e2 cL0 (eTup (aa0 (e2 φIx (bVar 2) (bVar 4)) aNil)) (e2 φIx (e2 φIx (bVar 1) (bVar 4)) (eC (.int 1)))) (bk0 none) (bk0 (some (eFn (W5 C) (aa0 (eVar 0) aNil))))) aNil)))))
  (λk ε=>∃y z,ε=[.sh (aD0 p),.sh (as0 s),.sh (rowT row),.ow (.lst (((an0 p s row).take k).map bedT)),y,z]) (bl0 0 s.length) 0 [.sh (aD0 p),.sh (as0 s),.sh (rowT row),.ow (.lst []),.un,.un] ⟨_,_,rfl⟩ λi t ε ht ⟨y,z,he⟩=>by
   subst he
   rw [Af9] at*
   rw [ca0,Ab0] at ht
   have hi:i<s.length:=by
    cases q:(List.range s.length)[i]? with
    |none=>rw [q] at ht; cases ht
    |some j=>
     have:=(Aa9.mp q).1
     rwa [Ag8] at this
   rw [Ar6 hi] at ht
   cases ht
   have hir:i<row.length:=by omega
   have hb:=hst s[i] (Ak7 hi)
   have hcl:=hrow row[i] (Ak7 hir)
   have hc:p.crops[row[i]]?=some p.crops[row[i]]:=Aa4 hcl
   have c1:φIx (as0 s) (intT i)=some (bedT s[i]):=aK0 _ i _ (by rw [Ab0,Aa4 hi]; rfl)
   have c2:φIx (bedT s[i]) (.int 0)=some (.int s[i].1):=aK0 _ 0 _ rfl
   have c3:φIx (bedT s[i]) (.int 1)=some (rowT s[i].2):=aK0 _ 1 _ rfl
   have c4:φIx (rowT row) (intT i)=some (intT row[i]):=aK0 _ i _ (by rw [Ab0,Aa4 hir]; rfl)
   have c5:φIx (.lst (p.crops.map au0)) (intT row[i])=some (au0 p.crops[row[i]]):=iS0 au0 _ _ _ hc
   have c6:φIx (au0 p.crops[row[i]]) (.int 1)=some (.int p.crops[row[i]].change):=aK0 _ 1 _ rfl
   have b0:(if([intT row[i]]:List T).length<=big then some (T.tup [intT row[i]]) else none)=some (T.tup [intT row[i]]):=rfl
   have b1:cL0 (.tup [intT row[i]]) (rowT s[i].2)=some (.tup ((row[i]::s[i].2).map intT)):=by
    show (if [intT row[i]].length+(s[i].2.map intT).length<=big then _ else _)=_
    rw [if_pos (by rw [Aa1]; unfold big; simp only [Ac4,Ak1]; omega)]
    rfl
   have b2:=ij0 (row[i]::s[i].2) (depth p) (by omega)
   have hbm:(an0 p s row)[i]?=some (bedM p s[i] row[i]):=by
    unfold an0
    rw [Ab0,(List.getElem?_zip_eq_some (z:=(s[i],row[i]))).mpr ⟨Aa4 hi,Aa4 hir⟩]
    rfl
   have et:(an0 p s row).take (i+1)=(an0 p s row).take i++ [bedM p s[i] row[i]]:=by rw [Ag9,hbm]; rfl
   have hlen:(((an0 p s row).take i).map bedT).length<big:=by
    rw [Aa1,Af7]
    unfold big
    omega
   refine⟨[.sh (aD0 p),.sh (as0 s),.sh (rowT row),.ow (.lst (((an0 p s row).take i).map bedT)),.sh (intT i),z],_,rfl,.inl ?_,⟨.sh (intT i),.sh (.int (bedM p s[i] row[i]).1),rfl⟩⟩
   simp_arith! [sApp,a1,a2,c1,c2,c3,c4,c5,c6,b0,b1,b2,b3,ed0,hmem,hlen]
   rw [et,Ac3]
   unfold bedM
   rw [hc]
   rfl
 have b0:(if([]:List T).length<=big then some (T.lst []) else none)=some (T.lst []):=rfl
 have hi:aY0 (aa0 (ay0 φLen (aa0 (bVar 1) aNil)) aNil) [.sh (aD0 p),.sh (as0 s),.sh (rowT row),.ow (.lst []),.un,.un]=some (bl0 0 s.length):=by
  simp_arith! [aY0,as0,Aa1]
  rw [if_pos ⟨by omega,by omega⟩,Ac9]
 have hbl:(an0 p s row).length=s.length:=by
  unfold an0
  rw [Aa1,Aq7]
  omega
 subst l2
 rw [Af9,ca0,Aa1,Ag8,<- hbl,Ae7,hbl,<- ca0] at l1
 have e1:cT0 3 (eLst aNil) [.sh (aD0 p),.sh (as0 s),.sh (rowT row),.un,.un,.un]=some (.nx [.sh (aD0 p),.sh (as0 s),.sh (rowT row),.ow (.lst []),.un,.un]):=rfl
 rw [aG0 e1,aG0 (cy0 hi l1)]
 exact dg0 (E:=bVar 3) rfl rfl
theorem crops_mem {b:Int × List Nat}:c∈cW0 p b.1 b.2↔okM p (b,c)=true:=by
 unfold cW0 okM
 rw [Ai8,Ag5,Ac8,Ag4]
theorem nY0 (p:Plot):∀(n:Nat) (s:Stt),s.length=n->∀r,r∈cJ0 p s↔r.length=s.length/\∀x∈s.zip r,okM p x=true:=by
 intro n
 induction n with
 |zero=>
  intro s hs r
  obtain rfl:=Ae2 hs
  show r∈ [[]]↔_
  rw [Aa6]
  constructor
  ·rintro rfl; exact⟨rfl,λx hx=>nomatch hx⟩
  ·rintro⟨h,_⟩; exact Ae2 h
 |succ n ih=>
  intro s hs r
  have hne:s≠ []:=λz=>by rw [z] at hs; cases hs
  obtain⟨s',b,rfl⟩:∃s' b,s=s'++ [b]:=⟨s.dropLast,s.getLast hne,(Af0 hne).symm⟩
  rw [Aa5,Ab5] at hs
  have ih:=ih s' (by omega)
  rw [dh0]
  unfold cq0
  rw [Ap9]
  constructor
  ·rintro⟨q,hq,hr⟩
   obtain⟨c,hc,rfl⟩:=Ac0.mp hr
   obtain⟨h1,h2⟩:=(ih q).mp hq
   refine⟨by rw [Aa5,Aa5,h1]; rfl,λx hx=> ?_⟩
   rw [List.zip_append h1.symm] at hx
   rcases Ad8.mp hx with hx|hx
   ·exact h2 x hx
   ·obtain rfl:x=(b,c):=Aa6.mp hx
    exact crops_mem.mp hc
  ·rintro⟨h1,h2⟩
   rw [Aa5,Ab5] at h1
   have hr:r≠ []:=λz=>by rw [z] at h1; cases h1
   obtain⟨q,c,rfl⟩:∃q c,r=q++ [c]:=⟨r.dropLast,r.getLast hr,(Af0 hr).symm⟩
   rw [Aa5,Ab5] at h1
   have hq:q.length=s'.length:=by omega
   rw [List.zip_append hq.symm] at h2
   refine⟨q,(ih q).mpr ⟨hq,λx hx=>h2 x (Ag2 _ hx)⟩,Ac0.mpr ⟨c,crops_mem.mpr (h2 (b,c) (Ac1 _ (Aa6.mpr rfl))),rfl⟩⟩
theorem may_mem:r∈mayM p s↔pZ0 p s r=true:=by
 unfold mayM pZ0
 rw [Ai8,nY0 p s.length s rfl r,Ac8,Ac8,Ag4,An4]
structure Lives (p:Plot)(s:Stt):Prop where
 len:s.length=p.soils.length
 few:p.soils.length<=3
 stood:∀b∈s,b.2.length<=(depth p).toNat/\∀c∈b.2,c<p.crops.length
theorem iw0 {p:Plot}(h:p.soils.length<=3):Lives p (aE0 p):=by
 refine⟨by unfold aE0; rw [Aa1],h,λb hb=> ?_⟩
 obtain⟨x,_,rfl⟩:=Ac0.mp hb
 exact⟨Ae5 _,λc hc=>nomatch hc⟩
theorem gK0 {r:List Nat}(h:Lives p s)(hl:r.length=s.length)(hr:∀c∈r,c<p.crops.length):Lives p (an0 p s r):=by
 refine⟨by unfold an0; rw [Aa1,Aq7,hl,At4]; exact h.len,h.few,λb hb=> ?_⟩
 obtain⟨⟨b0,c⟩,hx,rfl⟩:=Ac0.mp hb
 have hz:=An9 hx
 refine⟨?_,λd hd=> ?_⟩
 ·show ((c::b0.2).take (depth p).toNat).length<=_
  rw [Af7]
  exact Nat.min_le_left ..
 ·have hd:d∈(c::b0.2).take (depth p).toNat:=hd
  rcases Ab2.mp (List.mem_of_mem_take hd) with rfl|hd
  ·exact hr _ hz.2
  ·exact(h.stood b0 hz.1).2 d hd
theorem bO0 (C:Addr)(v lo hi:Int)(w:T)(h1:lo<=v)(h2:v<=hi):Z0 C [.int v,.int lo,.int hi,w]=some (false,.non):=by
 have i:W7 C [.int v,.int lo,.int hi]=some (false,.bl true):=by
  unfold W7 va0
  refine(aL0 (ε:=[.sh (.int v),.sh (.int lo),.sh (.int hi)]) rfl rfl).trans ?_
  have b1:isT "bool" (.int v)=some false:=rfl
  have b2:isT "int" (.int v)=some true:=rfl
  simp_arith! [eIs,b1,b2,dn0,h1,h2]
 unfold Z0 xa0
 refine(aL0 (ε:=[.sh (.int v),.sh (.int lo),.sh (.int hi),.sh w]) rfl rfl).trans ?_
 simp_arith! [i]
theorem el0 (C:Addr)(x:Str)(xs:List Str)(h:x∈xs):J1 C [.str x,.lst (xs.map .str)]=some (false,.non):=by
 unfold J1 Qa0
 refine(aL0 (ε:=[.sh (.str x),.sh (.lst (xs.map .str))]) rfl rfl).trans ?_
 have b:=mI0 true x xs
 simp_arith! [b,h]
structure Bound (p:Plot):Prop extends Good p where
 beds:1<=p.soils.length/\p.soils.length<=3
 top:1<=p.top/\p.top<=5
 soil:∀x∈p.soils,0<=x/\x<=p.top
 some:1<=p.crops.length
 text:∀c∈p.crops,c.name≠ ""
 chg:∀c∈p.crops,-3<=c.change/\c.change<=3
 har:∀c∈p.crops,0<=c.harvest/\c.harvest<=1000
 gap:∀c∈p.crops,0<=c.gap/\c.gap<=3
 bar:∀c∈p.crops,c.bars.length<=1000
 want:∀x∈p.wants,0<=x.2.1/\x.2.1<=x.2.2/\x.2.2<=3
 fewW:p.wants.length<=1000
theorem bm0 {gs:List T->Option (Bool × T)}{g:En->Option (List T)}(h1:g ε=some ts)(h2:gs ts=some (false,.non)):bd0 (eFn gs g) ε=some (.nx ε):=by
 unfold bd0 eFn
 rw [h1]
 show Option.map (λ_=>Fl.nx ε) ((gs ts).bind noD)=_
 rw [h2]
 rfl
theorem dH0 {q:En->Option Bool}{a:En->Option Fl}(h:q ε=some false):sIf q a sNx ε=some (.nx ε):=by
 unfold sIf
 rw [h]
 rfl
theorem qO0 (C:Addr)(p:Plot)(hp:Bound p):X3 C [.lst (p.soils.map .int),.int p.top]=some (false,.non):=by
 unfold X3 ha0
 refine(aL0 (ε:=[.sh (.lst (p.soils.map .int)),.sh (.int p.top),.un]) rfl rfl).trans ?_
 have hb:=hp.beds
 obtain⟨ε',l1,z,l2⟩:=bt0 (bd:=aq0 2) (body:=bd0 (eFn (Z0 C) (aa0 (eVar 2) (aa0 (eC (.int 0)) (aa0 (eVar 1) (aa0 (eC (.str "the soil of a bed")) aNil))))))
  (λk ε=>∃z,ε=[.sh (.lst (p.soils.map .int)),.sh (.int p.top),z]) (p.soils.map .int) 0 [.sh (.lst (p.soils.map .int)),.sh (.int p.top),.un] ⟨_,rfl⟩ λi t ε ht ⟨z,he⟩=>by
   subst he
   obtain⟨x,hx,rfl⟩:=Ac0.mp (Ac7 ht)
   have:=hp.soil x hx
   exact⟨[.sh (.lst (p.soils.map .int)),.sh (.int p.top),.sh (.int x)],_,rfl,.inl (bm0 rfl (bO0 C x 0 p.top _ this.1 this.2)),_,rfl⟩
 have e1:bd0 (eFn (Z0 C) (aa0 (eVar 1) (aa0 (eC (.int 1)) (aa0 (eC (.int 5)) (aa0 (eC (.str "the top")) aNil))))) [.sh (.lst (p.soils.map .int)),.sh (.int p.top),.un]=some (.nx [.sh (.lst (p.soils.map .int)),.sh (.int p.top),.un]):=bm0 rfl (bO0 C p.top 1 5 _ hp.top.1 hp.top.2)
 have e2':sIf (qNot (qB (eIs "list" (bVar 0)))) (λ_=>none) sNx [.sh (.lst (p.soils.map .int)),.sh (.int p.top),.un]=some (.nx [.sh (.lst (p.soils.map .int)),.sh (.int p.top),.un]):=dH0 rfl
 have e3:bd0 (eFn (Z0 C) (aa0 (ay0 φLen (aa0 (bVar 0) aNil)) (aa0 (eC (.int 1)) (aa0 (eC (.int 3)) (aa0 (eC (.str "the count of beds")) aNil))))) [.sh (.lst (p.soils.map .int)),.sh (.int p.top),.un]=some (.nx [.sh (.lst (p.soils.map .int)),.sh (.int p.top),.un]):=
  bm0 rfl (bO0 C _ 1 3 _ (by rw [Aa1]; omega) (by rw [Aa1]; omega))
 rw [aG0 e1,aG0 e2',aG0 e3,cy0 (f:=iLst (eVar 0)) rfl l1]
 rfl
theorem qD0 (C:Addr)(c:Crop)(h0:c.name≠ "") (h1: -3<=c.change/\c.change<=3) (h2:0<=c.harvest/\c.harvest<=1000) (h3:0<=c.gap/\c.gap<=3):j4 C [au0 c]=some (false,.non):=by
 unfold j4 Za0
 refine(aL0 (ε:=[.sh (au0 c)]) rfl rfl).trans ?_
 have a0:φIx (au0 c) (.int 0)=some (.str c.name):=aK0 _ 0 _ rfl
 have a1:φIx (au0 c) (.int 1)=some (.int c.change):=aK0 _ 1 _ rfl
 have a2:φIx (au0 c) (.int 2)=some (.int c.harvest):=aK0 _ 2 _ rfl
 have a3:φIx (au0 c) (.int 3)=some (.int c.gap):=aK0 _ 3 _ rfl
 have a4:φIx (au0 c) (.int 4)=some (.lst (c.bars.map .str)):=aK0 _ 4 _ rfl
 have q0:φEq (.str c.name) (.str "")=some (.bl false):=by
  show some (T.bl (decide (V.str _=V.str _)))=_
  rw [Ad3]
  intro z
  exact h0 (V.str.inj z)
 have r1:sIf (qOr (qNot (qB (eIs "tuple" (bVar 0)))) (qB (e2 φNe (ay0 φLen (aa0 (bVar 0) aNil)) (eC (.int 5))))) (λ_=>none) sNx [.sh (au0 c)]=some (.nx [.sh (au0 c)]):=dH0 rfl
 have r2:sIf (qOr (qNot (qB (eIs "str" (e2 φIx (bVar 0) (eC (.int 0)))))) (qB (e2 φEq (e2 φIx (bVar 0) (eC (.int 0))) (eC (.str ""))))) (λ_=>none) sNx [.sh (au0 c)]=some (.nx [.sh (au0 c)]):=dH0 (by
  have b:isT "str" (.str c.name)=some true:=rfl
  simp_arith! [eIs,a0,b,q0])
 have r3:bd0 (eFn (Z0 C) (aa0 (e2 φIx (bVar 0) (eC (.int 1))) (aa0 (e1 φNeg (eC (.int 3))) (aa0 (eC (.int 3)) (aa0 (eC (.str "the change of a crop")) aNil))))) [.sh (au0 c)]=some (.nx [.sh (au0 c)]):=
  bm0 (ts:=[.int c.change,.int (-3),.int 3,.str "the change of a crop"]) (by simp_arith! [a1,φNeg]) (bO0 C _ (-3) 3 _ h1.1 h1.2)
 have r4:bd0 (eFn (Z0 C) (aa0 (e2 φIx (bVar 0) (eC (.int 2))) (aa0 (eC (.int 0)) (aa0 (eC (.int 1000)) (aa0 (eC (.str "the harvest of a crop")) aNil))))) [.sh (au0 c)]=some (.nx [.sh (au0 c)]):=
  bm0 (ts:=[.int c.harvest,.int 0,.int 1000,.str "the harvest of a crop"]) (by simp_arith! [a2]) (bO0 C _ 0 1000 _ h2.1 h2.2)
 have r5:bd0 (eFn (Z0 C) (aa0 (e2 φIx (bVar 0) (eC (.int 3))) (aa0 (eC (.int 0)) (aa0 (eC (.int 3)) (aa0 (eC (.str "the gap of a crop")) aNil))))) [.sh (au0 c)]=some (.nx [.sh (au0 c)]):=
  bm0 (ts:=[.int c.gap,.int 0,.int 3,.str "the gap of a crop"]) (by simp_arith! [a3]) (bO0 C _ 0 3 _ h3.1 h3.2)
 have r6:sIf (qNot (qB (eIs "list" (e2 φIx (bVar 0) (eC (.int 4)))))) (λ_=>none) sNx [.sh (au0 c)]=some (.nx [.sh (au0 c)]):=dH0 (by
  have b:isT "list" (.lst (c.bars.map .str))=some true:=rfl
  simp_arith! [eIs,a4,b])
 rw [aG0 r1,aG0 r2,aG0 r3,aG0 r4,aG0 r5,r6]
 rfl
def oI0:T->T
 | .tup [n,_,_,_,_]=>n
 |_=> .non
theorem jN0 (C:Addr)(p:Plot)(h:p.crops.length<=1000):X1 C [.lst (p.crops.map au0)]=some (true,.lst (p.names.map .str)):=by
 unfold X1 Wa0
 refine(aL0 (ε:=[.sh (.lst (p.crops.map au0))]) rfl rfl).trans ?_
 have e:=bi0 (n:=1) (it:=iLst (eVar 0)) (ε:=[.sh (.lst (p.crops.map au0))]) (ts:=p.crops.map au0) (bd:=aq0 0) (f:=e2 φIx (bVar 0) (eC (.int 0))) (G:=oI0) rfl (by rw [Aa1]; unfold big; omega) λt ht=>by
  obtain⟨c,hc,rfl⟩:=Ac0.mp ht
  have b1:φIx (au0 c) (.int 0)=some (.str c.name):=aK0 _ 0 _ rfl
  refine⟨_,rfl,?_⟩
  simp_arith! [Ah4,Ag0,b1]
  rfl
 have e3:(p.crops.map au0).map oI0=p.names.map .str:=by
  rw [Ad2,Ad2]
  rfl
 rw [e3] at e
 unfold sRet
 rw [e]
 rfl
theorem jB0:∀(xs:List Str) (x:Str),x∈xs->idxT (xs.map T.str) (.str x)=some (xs.idxOf x)
 | [],_,h=>nomatch h
 |y::xs,x,h=>by
  unfold idxT
  rw [Ac2,As3,List.idxOf_cons]
  show (if(y==x)=true then some 0 else _)=_
  by_cases e:y=x
  ·subst e; simp
  ·have hne:(y==x)=false:=by simpa using e
   have hx:x∈xs:=(Ab2.mp h).resolve_left (Ne.symm e)
   have ih:=jB0 xs x hx
   unfold idxT at ih
   rw [hne,if_neg Ab4,ih]
   rfl
theorem iO0 (xs:List Str)(x:Str)(h:x∈xs)(hl:xs.length<=1000):dc0 (.lst (xs.map .str)) [.str x]=some (intT (xs.idxOf x)):=by
 show (if aZ0 (.str x) && (xs.map T.str).all aZ0 && decide ((xs.map T.str).length<=big) then _ else _)=_
 rw [gL0,jB0 xs x h]
 have hd:decide ((xs.map T.str).length<=big)=true:=Ad9 (by rw [Aa1]; unfold big; omega)
 rw [hd]
 rfl
def lv0 (p:Plot):T->T
 | .str x=>intT (num p x)
 |_=> .non
theorem kR0 (C:Addr)(p:Plot)(xs:List Str)(h:∀x∈xs,x∈p.names)(hl:xs.length<=1000)(hf:p.crops.length<=5):Z2 C [.lst (xs.map .str),.lst (p.names.map .str)]=some (false,rowT (xs.map (num p))):=by
 unfold Z2 qb0
 refine(aL0 (ε:=[.sh (.lst (xs.map .str)),.sh (.lst (p.names.map .str))]) rfl rfl).trans ?_
 have e:=bi0 (n:=1) (it:=iLst (eVar 0)) (ε:=[.sh (.lst (xs.map .str)),.sh (.lst (p.names.map .str))]) (ts:=xs.map .str) (bd:=aq0 0) (f:=eBM dc0 (bVar 2) (aa0 (bVar 0) aNil)) (G:=lv0 p) rfl (by rw [Aa1]; unfold big; omega) λt ht=>by
  obtain⟨x,hx,rfl⟩:=Ac0.mp ht
  have b1:=iO0 p.names x (h x hx) (by rw [Aa1]; omega)
  refine⟨_,rfl,?_⟩
  simp_arith! [Ah4,Ag0,b1]
  rfl
 have e3:(xs.map T.str).map (lv0 p)=(xs.map (num p)).map intT:=by
  rw [Ad2,Ad2]
  rfl
 rw [e3] at e
 exact dg0 e rfl
theorem fM0:∀(ks acc:List Key),(acc++ks).Nodup->ks.foldl (λacc k=>if k∈acc then acc else acc++ [k]) acc=acc++ks
 | [],acc,_=>by simp
 |k::ks,acc,h=>by
  have hk:¬k∈acc:=λz=>by
   rw [Al4] at h
   exact h.2.2 k z k (Af8 ..) rfl
  rw [List.foldl_cons,if_neg hk,fM0 ks (acc++ [k]) (by rw [At1]; exact h),At1]
  rfl
theorem mD0 (xs:List Str)(h:xs.Nodup):(metK (xs.map Sum.inr)).length=xs.length:=by
 have hn:(xs.map (Sum.inr:Str->Key)).Nodup:=by
  rw [List.nodup_iff_pairwise_ne] at h ⊢
  rw [List.pairwise_map]
  exact h.imp λhne z=>hne (Sum.inr.inj z)
 have:=fM0 (xs.map Sum.inr) [] (by simpa using hn)
 unfold metK
 rw [this]
 simp
theorem iJ0 {gs:List T->Option (Bool × T)}{E:En->Option T}(hE:E ε=some t)(hg:gs [t]=some (true,u)):sSet i (eFnF gs (aa0 E aNil)) ε=some (.nx (ε.set i (.sh u))):=by
 unfold sSet eFnF aa0 aNil
 simp only [hE,hg,Aa2,Ad5]
theorem lZ0 (C:Addr)(p:Plot)(hp:Bound p):v4 C [.lst (p.crops.map au0)]=some (false,.non):=by
 unfold v4 Va0
 refine(aL0 (ε:=[.sh (.lst (p.crops.map au0)),.un,.un,.un]) rfl rfl).trans ?_
 have hf:=hp.few
 have hs:=hp.some
 have r1:sIf (qNot (qB (eIs "list" (bVar 0)))) (λ_=>none) sNx [.sh (.lst (p.crops.map au0)),.un,.un,.un]=some (.nx [.sh (.lst (p.crops.map au0)),.un,.un,.un]):=dH0 rfl
 have r2:bd0 (eFn (Z0 C) (aa0 (ay0 φLen (aa0 (bVar 0) aNil)) (aa0 (eC (.int 1)) (aa0 (eC (.int 5)) (aa0 (eC (.str "the count of crops")) aNil))))) [.sh (.lst (p.crops.map au0)),.un,.un,.un]=some (.nx [.sh (.lst (p.crops.map au0)),.un,.un,.un]):=
  bm0 rfl (bO0 C _ 1 5 _ (by rw [Aa1]; omega) (by rw [Aa1]; omega))
 obtain⟨ε1,l1,z,l2⟩:=bt0 (bd:=aq0 1) (body:=bd0 (eFn (j4 C) (aa0 (eVar 1) aNil)))
  (λk ε=>∃z,ε=[.sh (.lst (p.crops.map au0)),z,.un,.un]) (p.crops.map au0) 0 [.sh (.lst (p.crops.map au0)),.un,.un,.un] ⟨_,rfl⟩ λi t ε ht ⟨z,he⟩=>by
   subst he
   obtain⟨c,hc,rfl⟩:=Ac0.mp (Ac7 ht)
   exact⟨[.sh (.lst (p.crops.map au0)),.sh (au0 c),.un,.un],_,rfl,.inl (bm0 rfl (qD0 C c (hp.text c hc) (hp.chg c hc) (hp.har c hc) (hp.gap c hc))),_,rfl⟩
 subst l2
 have r3:sSet 2 (eFnF (X1 C) (aa0 (eVar 0) aNil)) [.sh (.lst (p.crops.map au0)),z,.un,.un]=some (.nx [.sh (.lst (p.crops.map au0)),z,.sh (.lst (p.names.map .str)),.un]):=iJ0 rfl (jN0 C p (by omega))
 have r4:sIf (qB (e2 φNe (ee0 (bVar 2)) (ay0 φLen (aa0 (bVar 2) aNil)))) (λ_=>none) sNx [.sh (.lst (p.crops.map au0)),z,.sh (.lst (p.names.map .str)),.un]=some (.nx [.sh (.lst (p.crops.map au0)),z,.sh (.lst (p.names.map .str)),.un]):=dH0 (by
  have b1:ee0 (bVar 2) [.sh (.lst (p.crops.map au0)),z,.sh (.lst (p.names.map .str)),.un]=some (.int (p.names.length:Int)):=by
   unfold ee0
   simp_arith! [As0]
   rw [lj0,Aa2,if_pos (by rw [Aa1]; omega),mD0 _ hp.nd]
  have b2:ay0 φLen (aa0 (bVar 2) aNil) [.sh (.lst (p.crops.map au0)),z,.sh (.lst (p.names.map .str)),.un]=some (.int (p.names.length:Int)):=by
   simp_arith! [Aa1]
  unfold qB
  rw [av0 b1 b2]
  show (match some (T.bl (!decide (V.int _=V.int _))) with|some (T.bl b)=>some b|_=>none)=_
  rw [Ad9 rfl]
  rfl)
 obtain⟨ε2,k1,y,w,k2⟩:=bt0 (bd:=aq0 1) (body:=sFor (iLst (e2 φIx (bVar 1) (eC (.int 4)))) (aq0 3) (bd0 (eFn (J1 C) (aa0 (eVar 3) (aa0 (eVar 2) aNil)))))
  (λk ε=>∃y w,ε=[.sh (.lst (p.crops.map au0)),y,.sh (.lst (p.names.map .str)),w]) (p.crops.map au0) 0 [.sh (.lst (p.crops.map au0)),z,.sh (.lst (p.names.map .str)),.un] ⟨_,_,rfl⟩ λi t ε ht ⟨y,w,he⟩=>by
   subst he
   obtain⟨c,hc,rfl⟩:=Ac0.mp (Ac7 ht)
   obtain⟨ε3,m1,v,m2⟩:=bt0 (bd:=aq0 3) (body:=bd0 (eFn (J1 C) (aa0 (eVar 3) (aa0 (eVar 2) aNil))))
    (λk ε=>∃w,ε=[.sh (.lst (p.crops.map au0)),.sh (au0 c),.sh (.lst (p.names.map .str)),w]) (c.bars.map .str) 0 [.sh (.lst (p.crops.map au0)),.sh (au0 c),.sh (.lst (p.names.map .str)),w] ⟨_,rfl⟩ λi t ε ht ⟨w,he⟩=>by
     subst he
     obtain⟨b,hb,rfl⟩:=Ac0.mp (Ac7 ht)
     exact⟨[.sh (.lst (p.crops.map au0)),.sh (au0 c),.sh (.lst (p.names.map .str)),.sh (.str b)],_,rfl,.inl (bm0 rfl (el0 C b p.names (hp.bars c hc b hb))),_,rfl⟩
   subst m2
   have a4:φIx (au0 c) (.int 4)=some (.lst (c.bars.map .str)):=aK0 _ 4 _ rfl
   have hi:iLst (e2 φIx (bVar 1) (eC (.int 4))) [.sh (.lst (p.crops.map au0)),.sh (au0 c),.sh (.lst (p.names.map .str)),w]=some (c.bars.map .str):=by simp_arith! [a4]
   exact⟨[.sh (.lst (p.crops.map au0)),.sh (au0 c),.sh (.lst (p.names.map .str)),w],_,rfl,.inl (cy0 hi m1),_,_,rfl⟩
 subst k2
 rw [aG0 r1,aG0 r2,aG0 (cy0 (f:=iLst (eVar 0)) rfl l1),aG0 r3,aG0 r4,cy0 (f:=iLst (eVar 0)) rfl k1]
 rfl
theorem mx0 (C:Addr)(p:Plot)(hp:Bound p):Z4 C [aP0 p.wants,.lst (p.names.map .str)]=some (false,.non):=by
 unfold Z4 Ya0
 refine(aL0 (ε:=[.sh (aP0 p.wants),.sh (.lst (p.names.map .str)),.un,.un]) rfl rfl).trans ?_
 have r1:sIf (qNot (qB (eIs "dict" (bVar 0)))) (λ_=>none) sNx [.sh (aP0 p.wants),.sh (.lst (p.names.map .str)),.un,.un]=some (.nx [.sh (aP0 p.wants),.sh (.lst (p.names.map .str)),.un,.un]):=dH0 rfl
 have hi:hM0 (eVar 0) [.sh (aP0 p.wants),.sh (.lst (p.names.map .str)),.un,.un]=some (p.wants.map λx=> .tup [.str x.1,.tup [.int x.2.1,.int x.2.2]]):=by
  show some ((p.wants.map λx=>(x.1,T.tup [.int x.2.1,.int x.2.2])).map λkt=>T.tup [.str kt.1,kt.2])=_
  rw [Ad2]
  rfl
 obtain⟨ε1,l1,y,z,l2⟩:=bt0 (bd:=cu0 2 3) (body:=sSeq (bd0 (eFn (J1 C) (aa0 (eVar 2) (aa0 (eVar 1) aNil))))
  (sSeq (sIf (qOr (qNot (qB (eIs "tuple" (bVar 3)))) (qB (e2 φNe (ay0 φLen (aa0 (bVar 3) aNil)) (eC (.int 2))))) (λ_=>none) sNx)
  (sSeq (bd0 (eFn (Z0 C) (aa0 (e2 φIx (bVar 3) (eC (.int 1))) (aa0 (eC (.int 0)) (aa0 (eC (.int 3)) (aa0 (eC (.str "the most of a want")) aNil))))))
  (bd0 (eFn (Z0 C) (aa0 (e2 φIx (bVar 3) (eC (.int 0))) (aa0 (eC (.int 0)) (aa0 (e2 φIx (bVar 3) (eC (.int 1))) (aa0 (eC (.str "the least of a want")) aNil)))))))))
  (λk ε=>∃y z,ε=[.sh (aP0 p.wants),.sh (.lst (p.names.map .str)),y,z]) (p.wants.map λx=> .tup [.str x.1,.tup [.int x.2.1,.int x.2.2]]) 0 [.sh (aP0 p.wants),.sh (.lst (p.names.map .str)),.un,.un] ⟨_,_,rfl⟩ λi t ε ht ⟨y,z,he⟩=>by
   subst he
   obtain⟨⟨n,a,b⟩,hx,rfl⟩:=Ac0.mp (Ac7 ht)
   have hw:0<=a/\a<=b/\b<=3:=hp.want _ hx
   have hn:=hp.wants _ hx
   have c1:φIx (.tup [.int a,.int b]) (.int 0)=some (.int a):=aK0 _ 0 _ rfl
   have c2:φIx (.tup [.int a,.int b]) (.int 1)=some (.int b):=aK0 _ 1 _ rfl
   refine⟨[.sh (aP0 p.wants),.sh (.lst (p.names.map .str)),.sh (.str n),.sh (.tup [.int a,.int b])],_,rfl,.inl ?_,.sh (.str n),.sh (.tup [.int a,.int b]),rfl⟩
   have q1:bd0 (eFn (J1 C) (aa0 (eVar 2) (aa0 (eVar 1) aNil))) [.sh (aP0 p.wants),.sh (.lst (p.names.map .str)),.sh (.str n),.sh (.tup [.int a,.int b])]=some (.nx [.sh (aP0 p.wants),.sh (.lst (p.names.map .str)),.sh (.str n),.sh (.tup [.int a,.int b])]):=bm0 rfl (el0 C n p.names hn)
   have q2:sIf (qOr (qNot (qB (eIs "tuple" (bVar 3)))) (qB (e2 φNe (ay0 φLen (aa0 (bVar 3) aNil)) (eC (.int 2))))) (λ_=>none) sNx [.sh (aP0 p.wants),.sh (.lst (p.names.map .str)),.sh (.str n),.sh (.tup [.int a,.int b])]=some (.nx [.sh (aP0 p.wants),.sh (.lst (p.names.map .str)),.sh (.str n),.sh (.tup [.int a,.int b])]):=dH0 rfl
   have q3:bd0 (eFn (Z0 C) (aa0 (e2 φIx (bVar 3) (eC (.int 1))) (aa0 (eC (.int 0)) (aa0 (eC (.int 3)) (aa0 (eC (.str "the most of a want")) aNil))))) [.sh (aP0 p.wants),.sh (.lst (p.names.map .str)),.sh (.str n),.sh (.tup [.int a,.int b])]=some (.nx [.sh (aP0 p.wants),.sh (.lst (p.names.map .str)),.sh (.str n),.sh (.tup [.int a,.int b])]):=
    bm0 (ts:=[.int b,.int 0,.int 3,.str "the most of a want"]) (by simp_arith! [c2]) (bO0 C _ 0 3 _ (by have:=hw.1; have:=hw.2.1; omega) hw.2.2)
   have q4:bd0 (eFn (Z0 C) (aa0 (e2 φIx (bVar 3) (eC (.int 0))) (aa0 (eC (.int 0)) (aa0 (e2 φIx (bVar 3) (eC (.int 1))) (aa0 (eC (.str "the least of a want")) aNil))))) [.sh (aP0 p.wants),.sh (.lst (p.names.map .str)),.sh (.str n),.sh (.tup [.int a,.int b])]=some (.nx [.sh (aP0 p.wants),.sh (.lst (p.names.map .str)),.sh (.str n),.sh (.tup [.int a,.int b])]):=
    bm0 (ts:=[.int a,.int 0,.int b,.str "the least of a want"]) (by simp_arith! [c1,c2]) (bO0 C _ 0 b _ hw.1 hw.2.1)
   rw [aG0 q1,aG0 q2,aG0 q3]
   exact q4
 subst l2
 rw [aG0 r1,cy0 hi l1]
 rfl
theorem dN0 {φ:List T->Option T}{E:En->Option T}(hE:E ε=some t)(hp:φ [t]=some u):ay0 φ (aa0 E aNil) ε=some u:=by
 unfold ay0 aa0 aNil
 rw [hE]
 exact hp
theorem cU0 {f:En->Option T}{ε:En}(h0:ε[i]?=some (.ow (.ins C fs)))(hl:fs.length<1000)(hf:f ε=some t):cA0 C i n f ε=some (.nx (ε.set i (.ow (.ins C (kN0 n t fs))))):=by
 unfold cA0
 rw [h0]
 show (if C=C/\fs.length<1000 then _ else _)=_
 rw [if_pos ⟨rfl,hl⟩,hf]
 rfl
def toFld (k:Nat):T->T
 | .tup ts=>ts.getD k .non
 |_=> .non
theorem il0 (p:Plot)(k:Nat)(g:Crop->T)(hk:∀c,φIx (au0 c) (.int (k:Int))=some (g c))(hf:p.crops.length<=5)(ε:En)(hε:ε[3]?=some (.sh (.lst (p.crops.map au0)))):
  ay0 bw0 (aa0 (ba0 1 (iLst (eVar 3)) (aq0 0) bu0 (e2 φIx (bVar 0) (eC (.int (k:Int))))) aNil) ε=some (.tup (p.crops.map g)):=by
 have hi:iLst (eVar 3) ε=some (p.crops.map au0):=by
  unfold iLst eVar
  rw [hε]
 have hg:∀c,toFld k (au0 c)=g c:=λc=>by
  have h:=hk c
  have h:L2.atI [T.str c.name,.int c.change,.int c.harvest,.int c.gap,.lst (c.bars.map .str)] (k:Int)=some (g c):=h
  show ([T.str c.name,.int c.change,.int c.harvest,.int c.gap,.lst (c.bars.map .str)]:List T).getD k .non=g c
  rw [Af1]
  unfold L2.atI L2.ixN at h
  rw [if_pos (by omega)] at h
  split at h
  ·rw [Aa2,Ac9] at h
   rw [h]
   rfl
  ·cases h
 have e:=bi0 (n:=1) (bd:=aq0 0) (f:=e2 φIx (bVar 0) (eC (.int (k:Int)))) (G:=toFld k) hi (by rw [Aa1]; unfold big; omega) λt ht=>by
  obtain⟨c,hc,rfl⟩:=Ac0.mp ht
  refine⟨_,rfl,?_⟩
  refine(av0 (s:=au0 c) (t:=.int (k:Int)) rfl rfl).trans ?_
  rw [hk c,hg c]
 rw [Ad2] at e
 refine(dN0 e rfl).trans ?_
 congr 2
 apply Ak5
 intro c _
 exact hg c
theorem qX0 {g:En->Option Fl}{ts:List T}(h:ts.length+1=n)(he:id0 C N ts=ε):fnI C N n g ts=(g ε).bind (retI C):=by
 unfold fnI
 rw [if_pos h,he]
theorem hD0 {φ:List T->Option T}{E F:En->Option T}(hE:E ε=some s)(hF:F ε=some t)(hp:φ [s,t]=some u):ay0 φ (aa0 E (aa0 F aNil)) ε=some u:=by
 unfold ay0 aa0 aNil
 simp only [hE,hF,Aa2]
 exact hp
def oJ0 (p:Plot):T->T
 | .tup [_,_,_,_,.lst bs]=> .tup (bs.map (lv0 p))
 |_=> .non
def rD0 (p:Plot):T->T
 | .tup [.str x,.tup [a,b]]=> .tup [intT (num p x),a,b]
 |_=> .non
abbrev gE (C:Addr)(p:Plot)(fs:List (Str × T))(x:Sl):En:=[.ow (.ins C fs),.sh (.lst (p.soils.map .int)),.sh (.int p.top),.sh (.lst (p.crops.map au0)),.sh (aP0 p.wants),x]
abbrev gF (p:Plot)(r:List (Str × T)):List (Str × T):=("soils",.tup (p.soils.map .int))::("top",.int p.top)::("changes",.tup (p.crops.map λc=> .int c.change))::("harvests",.tup (p.crops.map λc=> .int c.harvest))::("gaps",.tup (p.crops.map λc=> .int c.gap))::r
theorem pG0 (C:Addr)(p:Plot)(hp:Bound p):Q4 C [.lst (p.soils.map .int),.int p.top,.lst (p.crops.map au0),aP0 p.wants]=some (bI0 p):=by
 unfold Q4 kb0
 refine(qX0 (ε:=(gE C p [] .un)) rfl rfl).trans ?_
 have hf:=hp.few
 have r1:bd0 (eFn (X3 C) (aa0 (eVar 1) (aa0 (eVar 2) aNil))) (gE C p [] .un)=some (.nx (gE C p [] .un)):=bm0 rfl (qO0 C p hp)
 have r2:bd0 (eFn (v4 C) (aa0 (eVar 3) aNil)) (gE C p [] .un)=some (.nx (gE C p [] .un)):=bm0 rfl (lZ0 C p hp)
 have r3:sSet 5 (eFnF (X1 C) (aa0 (eVar 3) aNil)) (gE C p [] .un)=some (.nx (gE C p [] (.sh (.lst (p.names.map .str))))):=iJ0 rfl (jN0 C p (by omega))
 have r4:bd0 (eFn (Z4 C) (aa0 (eVar 4) (aa0 (eVar 5) aNil))) (gE C p [] (.sh (.lst (p.names.map .str))))=some (.nx (gE C p [] (.sh (.lst (p.names.map .str))))):=bm0 rfl (mx0 C p hp)
 have hbars:(ay0 bw0 (aa0 (ba0 1 (iLst (eVar 3)) (aq0 0) bu0 (eFn (Z2 C) (aa0 (e2 φIx (bVar 0) (eC (.int 4))) (aa0 (eVar 6) aNil)))) aNil)) (gE C p (gF p []) (.sh (.lst (p.names.map .str))))=some (.tup (p.crops.map λc=>rowT (cm0 p c))):=by
  have e:=bi0 (n:=1) (it:=iLst (eVar 3)) (bd:=aq0 0) (f:=eFn (Z2 C) (aa0 (e2 φIx (bVar 0) (eC (.int 4))) (aa0 (eVar 6) aNil))) (G:=oJ0 p) (ε:=(gE C p (gF p []) (.sh (.lst (p.names.map .str))))) (ts:=p.crops.map au0) rfl (by rw [Aa1]; unfold big; omega) λt ht=>by
   obtain⟨c,hc,rfl⟩:=Ac0.mp ht
   have b1:φIx (au0 c) (.int 4)=some (.lst (c.bars.map .str)):=aK0 _ 4 _ rfl
   have b2:=kR0 C p c.bars (hp.bars c hc) (hp.bar c hc) hf
   have b3:oJ0 p (au0 c)=rowT (cm0 p c):=by
    show T.tup ((c.bars.map T.str).map (lv0 p))=T.tup ((c.bars.map (num p)).map intT)
    rw [Ad2,Ad2]
    rfl
   refine⟨_,rfl,?_⟩
   rw [b3]
   simp_arith! [Ah4,Ag0,b1,b2]
   rfl
  refine(dN0 e rfl).trans ?_
  rw [Ad2]
  congr 2
  apply Ak5
  intro c _
  show T.tup ((c.bars.map T.str).map (lv0 p))=T.tup ((c.bars.map (num p)).map intT)
  rw [Ad2,Ad2]
  rfl
 have hwants:(ay0 bw0 (aa0 (ba0 2 (hM0 (eVar 4)) (cu0 0 1) bu0 (eTup (aa0 (eBM dc0 (bVar 7) (aa0 (bVar 0) aNil)) (aa0 (e2 φIx (bVar 1) (eC (.int 0))) (aa0 (e2 φIx (bVar 1) (eC (.int 1))) aNil))))) aNil)) (gE C p (gF p [("bars",.tup (p.crops.map λc=>rowT (cm0 p c)))]) (.sh (.lst (p.names.map .str))))=some (.tup (p.wants.map λx=> .tup [intT (num p x.1),.int x.2.1,.int x.2.2])):=by
  have hi:hM0 (eVar 4) (gE C p (gF p [("bars",.tup (p.crops.map λc=>rowT (cm0 p c)))]) (.sh (.lst (p.names.map .str))))=some (p.wants.map λx=> .tup [.str x.1,.tup [.int x.2.1,.int x.2.2]]):=by
   show some ((p.wants.map λx=>(x.1,T.tup [.int x.2.1,.int x.2.2])).map λkt=>T.tup [.str kt.1,kt.2])=_
   rw [Ad2]
   rfl
  have e:=bi0 (n:=2) (bd:=cu0 0 1) (f:=eTup (aa0 (eBM dc0 (bVar 7) (aa0 (bVar 0) aNil)) (aa0 (e2 φIx (bVar 1) (eC (.int 0))) (aa0 (e2 φIx (bVar 1) (eC (.int 1))) aNil)))) (G:=rD0 p) hi (by rw [Aa1]; have:=hp.fewW; unfold big; omega) λt ht=>by
   obtain⟨⟨n,a,b⟩,hx,rfl⟩:=Ac0.mp ht
   have hn:n∈p.names:=hp.wants _ hx
   have c1:φIx (.tup [.int a,.int b]) (.int 0)=some (.int a):=aK0 _ 0 _ rfl
   have c2:φIx (.tup [.int a,.int b]) (.int 1)=some (.int b):=aK0 _ 1 _ rfl
   have c3:=iO0 p.names n hn (by rw [Aa1]; omega)
   have c4:∀(x y z:T),(if([x,y,z]:List T).length<=big then some (T.tup [x,y,z]) else none)=some (T.tup [x,y,z]):=λx y z=>rfl
   refine⟨[.sh (.str n),.sh (.tup [.int a,.int b])]++(gE C p (gF p [("bars",.tup (p.crops.map λc=>rowT (cm0 p c)))]) (.sh (.lst (p.names.map .str)))),rfl,?_⟩
   simp_arith! [An3,List.nil_append,c1,c2,c3,c4]
   rfl
  refine(dN0 e rfl).trans ?_
  rw [Ad2]
  rfl
 have hdepth:(ay0 kx0 (aa0 (eC (.int 1)) (aa0 (ay0 φMax (aa0 (eFld C "gaps" (bVar 0)) aNil)) aNil))) (gE C p (gF p [("bars",.tup (p.crops.map λc=>rowT (cm0 p c))),("wants",.tup (p.wants.map λx=> .tup [intT (num p x.1),.int x.2.1,.int x.2.2]))]) (.sh (.lst (p.names.map .str))))=some (.int (depth p)):=by
  have hg:eFld C "gaps" (bVar 0) (gE C p (gF p [("bars",.tup (p.crops.map λc=>rowT (cm0 p c))),("wants",.tup (p.wants.map λx=> .tup [intT (num p x.1),.int x.2.1,.int x.2.2]))]) (.sh (.lst (p.names.map .str))))=some (.tup (p.crops.map λc=> .int c.gap)):=by
   show (if C=C then _ else _)=_
   rw [if_pos rfl]
   rfl
  have hm:ay0 φMax (aa0 (eFld C "gaps" (bVar 0)) aNil) (gE C p (gF p [("bars",.tup (p.crops.map λc=>rowT (cm0 p c))),("wants",.tup (p.wants.map λx=> .tup [intT (num p x.1),.int x.2.1,.int x.2.2]))]) (.sh (.lst (p.names.map .str))))=(match p.crops.map (·.gap) with| []=>none|g::gs=>some (.int (maxI g gs))):=by
   have e3:(p.crops.map λc=>T.int c.gap)=(p.crops.map (·.gap)).map T.int:=by rw [Ad2]; rfl
   unfold ay0 aa0 aNil
   rw [hg,e3]
   show (ec0 ((p.crops.map (·.gap)).map T.int)).bind maxO=_
   rw [hA0]
   cases p.crops.map (·.gap)<;>rfl
  have hs:=hp.some
  unfold depth
  cases hc:p.crops.map (·.gap) with
  |nil=>
   have:(p.crops.map (·.gap)).length=0:=by rw [hc]; rfl
   rw [Aa1] at this
   omega
  |cons g gs=>
   rw [hc] at hm
   exact hD0 rfl hm rfl
 have u0:cA0 C 0 "soils" (ay0 bw0 (aa0 (bVar 1) aNil)) (gE C p [] (.sh (.lst (p.names.map .str))))=some (.nx (gE C p [("soils",.tup (p.soils.map .int))] (.sh (.lst (p.names.map .str))))):=by
  refine(cU0 (t:=(("soils",.tup (p.soils.map .int)):Str × T).2) rfl (by show 0<1000; decide) ?_).trans ?_
  ·exact rfl
  ·rfl
 have u1:cA0 C 0 "top" (eVar 2) (gE C p [("soils",.tup (p.soils.map .int))] (.sh (.lst (p.names.map .str))))=some (.nx (gE C p [("soils",.tup (p.soils.map .int)),("top",.int p.top)] (.sh (.lst (p.names.map .str))))):=by
  refine(cU0 (t:=(("top",.int p.top):Str × T).2) rfl (by show 1<1000; decide) ?_).trans ?_
  ·exact rfl
  ·rfl
 have u2:cA0 C 0 "changes" (ay0 bw0 (aa0 (ba0 1 (iLst (eVar 3)) (aq0 0) bu0 (e2 φIx (bVar 0) (eC (.int 1)))) aNil)) (gE C p [("soils",.tup (p.soils.map .int)),("top",.int p.top)] (.sh (.lst (p.names.map .str))))=some (.nx (gE C p [("soils",.tup (p.soils.map .int)),("top",.int p.top),("changes",.tup (p.crops.map λc=> .int c.change))] (.sh (.lst (p.names.map .str))))):=by
  refine(cU0 (t:=(("changes",.tup (p.crops.map λc=> .int c.change)):Str × T).2) rfl (by show 2<1000; decide) ?_).trans ?_
  ·exact(il0 p 1 (λc=> .int c.change) (λc=>aK0 _ 1 _ rfl) hf _ rfl)
  ·rfl
 have u3:cA0 C 0 "harvests" (ay0 bw0 (aa0 (ba0 1 (iLst (eVar 3)) (aq0 0) bu0 (e2 φIx (bVar 0) (eC (.int 2)))) aNil)) (gE C p [("soils",.tup (p.soils.map .int)),("top",.int p.top),("changes",.tup (p.crops.map λc=> .int c.change))] (.sh (.lst (p.names.map .str))))=some (.nx (gE C p [("soils",.tup (p.soils.map .int)),("top",.int p.top),("changes",.tup (p.crops.map λc=> .int c.change)),("harvests",.tup (p.crops.map λc=> .int c.harvest))] (.sh (.lst (p.names.map .str))))):=by
  refine(cU0 (t:=(("harvests",.tup (p.crops.map λc=> .int c.harvest)):Str × T).2) rfl (by show 3<1000; decide) ?_).trans ?_
  ·exact(il0 p 2 (λc=> .int c.harvest) (λc=>aK0 _ 2 _ rfl) hf _ rfl)
  ·rfl
 have u4:cA0 C 0 "gaps" (ay0 bw0 (aa0 (ba0 1 (iLst (eVar 3)) (aq0 0) bu0 (e2 φIx (bVar 0) (eC (.int 3)))) aNil)) (gE C p [("soils",.tup (p.soils.map .int)),("top",.int p.top),("changes",.tup (p.crops.map λc=> .int c.change)),("harvests",.tup (p.crops.map λc=> .int c.harvest))] (.sh (.lst (p.names.map .str))))=some (.nx (gE C p (gF p []) (.sh (.lst (p.names.map .str))))):=by
  refine(cU0 (t:=(("gaps",.tup (p.crops.map λc=> .int c.gap)):Str × T).2) rfl (by show 4<1000; decide) ?_).trans ?_
  ·exact(il0 p 3 (λc=> .int c.gap) (λc=>aK0 _ 3 _ rfl) hf _ rfl)
  ·rfl
 have u5:cA0 C 0 "bars" (ay0 bw0 (aa0 (ba0 1 (iLst (eVar 3)) (aq0 0) bu0 (eFn (Z2 C) (aa0 (e2 φIx (bVar 0) (eC (.int 4))) (aa0 (eVar 6) aNil)))) aNil)) (gE C p (gF p []) (.sh (.lst (p.names.map .str))))=some (.nx (gE C p (gF p [("bars",.tup (p.crops.map λc=>rowT (cm0 p c)))]) (.sh (.lst (p.names.map .str))))):=by
  refine(cU0 (t:=(("bars",.tup (p.crops.map λc=>rowT (cm0 p c))):Str × T).2) rfl (by show 5<1000; decide) ?_).trans ?_
  ·exact hbars
  ·rfl
 have u6:cA0 C 0 "wants" (ay0 bw0 (aa0 (ba0 2 (hM0 (eVar 4)) (cu0 0 1) bu0 (eTup (aa0 (eBM dc0 (bVar 7) (aa0 (bVar 0) aNil)) (aa0 (e2 φIx (bVar 1) (eC (.int 0))) (aa0 (e2 φIx (bVar 1) (eC (.int 1))) aNil))))) aNil)) (gE C p (gF p [("bars",.tup (p.crops.map λc=>rowT (cm0 p c)))]) (.sh (.lst (p.names.map .str))))=some (.nx (gE C p (gF p [("bars",.tup (p.crops.map λc=>rowT (cm0 p c))),("wants",.tup (p.wants.map λx=> .tup [intT (num p x.1),.int x.2.1,.int x.2.2]))]) (.sh (.lst (p.names.map .str))))):=by
  refine(cU0 (t:=(("wants",.tup (p.wants.map λx=> .tup [intT (num p x.1),.int x.2.1,.int x.2.2])):Str × T).2) rfl (by show 6<1000; decide) ?_).trans ?_
  ·exact hwants
  ·rfl
 have u7:cA0 C 0 "depth" (ay0 kx0 (aa0 (eC (.int 1)) (aa0 (ay0 φMax (aa0 (eFld C "gaps" (bVar 0)) aNil)) aNil))) (gE C p (gF p [("bars",.tup (p.crops.map λc=>rowT (cm0 p c))),("wants",.tup (p.wants.map λx=> .tup [intT (num p x.1),.int x.2.1,.int x.2.2]))]) (.sh (.lst (p.names.map .str))))=some (.nx (gE C p (gF p [("bars",.tup (p.crops.map λc=>rowT (cm0 p c))),("wants",.tup (p.wants.map λx=> .tup [intT (num p x.1),.int x.2.1,.int x.2.2])),("depth",.int (depth p))]) (.sh (.lst (p.names.map .str))))):=by
  refine(cU0 (t:=(("depth",.int (depth p)):Str × T).2) rfl (by show 7<1000; decide) ?_).trans ?_
  ·exact hdepth
  ·rfl
 rw [aG0 r1,aG0 r2,aG0 r3,aG0 r4,aG0 u0,aG0 u1,aG0 u2,aG0 u3,aG0 u4,aG0 u5,aG0 u6,u7]
 show (if C=C then some (bI0 p) else none)=_
 rw [if_pos rfl]
abbrev scrT (ns:List Int):T:=.scr ns
theorem qJ0 (C:Addr)(ns:List Int)(k:Nat):X4 C [scrT ns,intT k]=some (false,.int (ns.getD k 0)):=by
 unfold X4 xc0
 refine(aL0 (ε:=[.sh (scrT ns),.sh (intT k)]) rfl rfl).trans ?_
 by_cases h:k<ns.length
 ·have h1:(k:Int)<(ns.length:Int):=by omega
  have h2:φIx (.scr ns) (intT k)=some (.int ns[k]):=by
   show (L2.atI ns (k:Int)).map T.int=_
   rw [L2.atI_nat (Aa4 h)]
   rfl
  simp_arith! [h1,h2]
  rw [Af1,Aa4 h]
  rfl
 ·have h1:¬(k:Int)<(ns.length:Int):=by omega
  simp_arith! [h1]
  rw [Af1,Ai9 (by omega)]
  rfl
theorem co0 {gs:List T->Option (Bool × T)}{E F:En->Option T}(hE:E ε=some s)(hF:F ε=some t)(hp:gs [s,t]=some (false,u)):eFn gs (aa0 E (aa0 F aNil)) ε=some u:=by
 unfold eFn aa0 aNil
 simp only [hE,hF,Aa2,hp,noD,Ai1,Ad6,Ah2]
theorem fg0 {E:En->Option T}(hE:E ε=some t):(sRet false E ε).bind dj0=some (false,t):=by
 unfold sRet
 rw [hE]
 rfl
def aC0 (ns:List Int)(k:Nat):Int:=(ns.getD (k%61) 0+7919*(k:Int))*(48271+2*(k:Int))%2147483647
theorem dC0 (C:Addr)(ns:List Int)(k:Nat)(hk:k<=1000):j0 C [scrT ns,intT k]=some (false,.int (aC0 ns k)):=by
 unfold j0 Zc0
 refine(aL0 (ε:=[.sh (scrT ns),.sh (intT k)]) rfl rfl).trans ?_
 have c:=qJ0 C ns (k%61)
 have m1:φMod (intT k) (.int 61)=some (intT (k%61)):=by
  simp only [intT,φMod]
  rw [if_pos (by omega)]
  rw [Int.natCast_emod]
  rfl
 have m2:∀i j:Int,-1000000<j->j<1000000->φMul (.int i) (.int j)=some (.int (i*j)):=λi j h1 h2=>by
  simp only [φMul]
  rw [if_pos ⟨by omega,by omega⟩]
 have m3:∀i:Int,φMod (.int i) (.int 2147483647)=some (.int (i%2147483647)):=λi=>by
  simp only [φMod]
  rw [if_pos (by omega)]
 have s0:e2 φMod (bVar 1) (eC (.int 61)) [.sh (scrT ns),.sh (intT k)]=some (intT (k%61)):=(av0 (s:=intT k) (t:=.int 61) rfl rfl).trans m1
 have s1:eFn (X4 C) (aa0 (eVar 0) (aa0 (e2 φMod (bVar 1) (eC (.int 61))) aNil)) [.sh (scrT ns),.sh (intT k)]=some (.int (ns.getD (k%61) 0)):=co0 rfl s0 c
 have s2:e2 φMul (eC (.int 7919)) (bVar 1) [.sh (scrT ns),.sh (intT k)]=some (.int (7919*(k:Int))):=(av0 (s:=.int 7919) (t:=intT k) rfl rfl).trans (m2 _ _ (by omega) (by omega))
 have s3:=(av0 (φ:=φAdd) s1 s2)
 have s4:e2 φMul (eC (.int 2)) (bVar 1) [.sh (scrT ns),.sh (intT k)]=some (.int (2*(k:Int))):=(av0 (s:=.int 2) (t:=intT k) rfl rfl).trans (m2 _ _ (by omega) (by omega))
 have s5:=(av0 (φ:=φAdd) (f:=eC (.int 48271)) (s:=.int 48271) rfl s4)
 have s6:=(av0 (φ:=φMul) s3 s5).trans (m2 _ _ (by omega) (by omega))
 have s7:=(av0 (φ:=φMod) (g:=eC (.int 2147483647)) (t:=.int 2147483647) s6 rfl).trans (m3 _)
 exact fg0 s7
def ef0 (p:Plot):T:=.lst [.lst (p.soils.map .int),.int p.top,.lst (p.crops.map au0),aP0 p.wants]
theorem mJ0 (C:Addr)(p:Plot)(hf:p.crops.length<=5):Q8 C [aD0 p]=some (true,ef0 p):=by
 unfold Q8 jd0
 refine(aL0 (ε:=[.sh (aD0 p),.un]) rfl rfl).trans ?_
 have a0:φIx (aD0 p) (.int 0)=some (.lst (p.soils.map .int)):=aK0 _ 0 _ rfl
 have a1:φIx (aD0 p) (.int 1)=some (.int p.top):=aK0 _ 1 _ rfl
 have a2:φIx (aD0 p) (.int 2)=some (.lst (p.crops.map au0)):=aK0 _ 2 _ rfl
 have a3:φIx (aD0 p) (.int 3)=some (aP0 p.wants):=aK0 _ 3 _ rfl
 have hi:iLst (e2 φIx (bVar 0) (eC (.int 2))) [.sh (aD0 p),.un]=some (p.crops.map au0):=by simp_arith! [a2]
 have e:=bi0 (n:=1) (bd:=aq0 0) (f:=e2 cL0 (eSlT (bVar 0) (bk0 none) (bk0 (some (eC (.int 4))))) (eTup (aa0 (ay0 gi0 (aa0 (e2 φIx (bVar 0) (eC (.int 4))) aNil)) aNil))) (G:=id) hi (by rw [Aa1]; unfold big; omega) λt ht=>by
  obtain⟨c,hc,rfl⟩:=Ac0.mp ht
  have b4:φIx (au0 c) (.int 4)=some (.lst (c.bars.map .str)):=aK0 _ 4 _ rfl
  have b5:∀x:T,(if([x]:List T).length<=big then some (T.tup [x]) else none)=some (T.tup [x]):=λx=>rfl
  refine⟨[.sh (au0 c),.sh (aD0 p),.un],rfl,?_⟩
  simp_arith! [b4,gi0,b5,au0]
  rfl
 rw [Av4] at e
 have r1:sSet 1 (ba0 1 (iLst (e2 φIx (bVar 0) (eC (.int 2)))) (aq0 0) bu0 (e2 cL0 (eSlT (bVar 0) (bk0 none) (bk0 (some (eC (.int 4))))) (eTup (aa0 (ay0 gi0 (aa0 (e2 φIx (bVar 0) (eC (.int 4))) aNil)) aNil)))) [.sh (aD0 p),.un]=some (.nx [.sh (aD0 p),.sh (.lst (p.crops.map au0))]):=by
  unfold sSet
  rw [e]
  rfl
 rw [aG0 r1]
 have b6:∀x y z w:T,(if([x,y,z,w]:List T).length<=big then some (T.lst [x,y,z,w]) else none)=some (T.lst [x,y,z,w]):=λx y z w=>rfl
 have b7:lh0 [aP0 p.wants]=some (aP0 p.wants):=rfl
 simp_arith! [a0,a1,a3,gi0,b7,b6]
 rfl
theorem bK0 (i j:Int)(h:0<j):φMod (.int i) (.int j)=some (.int (i%j)):=by
 simp only [φMod]
 rw [if_pos h]
theorem lE0 (i j:Int)(h1: -1000000<j)(h2:j<1000000):φMul (.int i) (.int j)=some (.int (i*j)):=by
 simp only [φMul]
 rw [if_pos ⟨by omega,by omega⟩]
theorem mn0 (i j:Int)(h:0<j)(h2:j<1000):φDiv (.int i) (.int j)=some (.int (i / j)):=by
 simp only [φDiv]
 rw [if_pos ⟨h,by omega⟩]
theorem eqI (i j:Int):φEq (.int i) (.int j)=some (.bl (decide (i=j))):=by
 show some (T.bl (decide (V.int i=V.int j)))=_
 by_cases h:i=j
 ·subst h; simp
 ·rw [Ad3 h,Ad3 λz=>h (V.int.inj z)]
theorem aU0 {f:En->Option T}(h:f ε=some t):sSet i f ε=some (.nx (ε.set i (.sh t))):=by
 unfold sSet
 rw [h]
 rfl
theorem iQ0 {f:En->Option T}(h:f ε=some t)(hi:isI t=false):cT0 i f ε=some (.nx (ε.set i (.ow t))):=by
 unfold cT0
 rw [h]
 show (if isI t=true then none else _)=_
 rw [hi]
 rfl
theorem hy0 {q:En->Option Bool}{a b:En->Option Fl}(h:q ε=some c):sIf q a b ε=if c=true then a ε else b ε:=by
 unfold sIf
 rw [h]
 rfl
theorem cK0 {f:En->Option T}(h:f ε=some (.bl b)):qB f ε=some b:=by
 unfold qB
 rw [h]
theorem cg0 {g h:En->Option Fl}(h1:g ε=some (.nx ε1)):(sSeq g h ε).bind dj0=(h ε1).bind dj0:=by rw [aG0 h1]
theorem aB0 {f:En->Option T}{g:En->Option (List T)}(h1:f ε=some t)(h2:g ε=some ts):aa0 f g ε=some (t::ts):=by
 unfold aa0
 rw [h1,Aa2,h2]
 rfl
theorem fW0 {g:En->Option (List T)}(h:g ε=some ts)(hl:ts.length<=big):eTup g ε=some (.tup ts):=by
 unfold eTup
 rw [h]
 show (if _ then _ else _)=_
 rw [if_pos hl]
theorem oj0 {g:En->Option (List T)}(h:g ε=some ts)(hl:ts.length<=big):eLst g ε=some (.lst ts):=by
 unfold eLst
 rw [h]
 show (if _ then _ else _)=_
 rw [if_pos hl]
theorem qC0 {f:En->Option T}{ε:En}(h0:ε[i]?=some (.ow (.lst ts)))(hl:ts.length<big)(hf:f ε=some t):sApp i f ε=some (.nx (ε.set i (.ow (.lst (ts++ [t]))))):=by
 unfold sApp
 rw [h0]
 show (f ε).bind _=_
 rw [hf]
 show (if _ then _ else _)=_
 rw [if_pos hl]
theorem oq0 {fk fv:En->Option T}{ε:En}(h0:ε[i]?=some (.ow (.dct kts)))(hl:kts.length<big)(hv:fv ε=some v)(hk:fk ε=some (.str k)):BD.sDPut i fk fv ε=some (.nx (ε.set i (.ow (.dct (putT kts k v))))):=by
 unfold BD.sDPut
 rw [h0]
 show (fv ε).bind _=_
 rw [hv,Aa2,hk]
 show (if _ then _ else _)=_
 rw [if_pos hl]
theorem dI0 {g:En->Option (List T)}(h:g ε=some [intT n])(hn:n<1000000):aY0 g ε=some (bl0 0 n):=by
 unfold aY0
 rw [h]
 show (if -(2^62)<=(n:Int)/\(n:Int)<2^62 then some (bl0 0 (n:Int).toNat) else none)=_
 rw [if_pos ⟨by omega,by omega⟩,Ac9]
theorem gR0 (l:List Int)(m lo hi:Int)(h0:0<=m)(h1:m<l.length)(hl:∀x∈l,lo<=x/\x<=hi):∃v,φIx (.lst (l.map .int)) (.int m)=some (.int v)/\lo<=v/\v<=hi:=by
 obtain⟨k,rfl⟩:=Int.eq_ofNat_of_zero_le h0
 have hk:k<l.length:=by omega
 exact⟨l[k],et0 _ k _ (by rw [Ab0,Aa4 hk]; rfl),hl _ (Ak7 hk)⟩
theorem iD0 {bd:T->En->Option En}{f:En->Option T}{α:Type}(E:α->T)(R:T->α->Prop):∀(ts:List T),
  (∀t,t∈ts->∃ε1 a,bd t (List.replicate n .un++ε)=some ε1/\f ε1=some (E a)/\R t a)->∃as:List α,ey0 n ε bd bu0 f ts=some (as.map E)/\as.length=ts.length/\∀(i:Nat) t,ts[i]?=some t->∃a,as[i]?=some a/\R t a
 | [],_=>⟨[],rfl,rfl,λi t h=>by simp at h⟩
 |t::ts,h=>by
  obtain⟨ε1,a,h1,h2,h3⟩:=h t (Af8 ..)
  obtain⟨as,h4,h5,h6⟩:=iD0 E R ts λu hu=>h u (Ae6 _ hu)
  refine⟨a::as,?_,by simp [h5],λi u hu=> ?_⟩
  ·unfold ey0
   have q:bu0 ε1=some true:=rfl
   rw [h1,Aa2,q,Aa2,if_pos rfl,h2,Aa2,h4]
   rfl
  ·cases i with
   |zero=>simp at hu; subst hu; exact⟨a,rfl,h3⟩
   |succ i=>
    obtain⟨b,q1,q2⟩:=h6 i u (by simpa using hu)
    exact⟨b,by simpa using q1,q2⟩
theorem iF0 {it:En->Option (List T)}{bd:T->En->Option En}{f:En->Option T}{α:Type}(E:α->T)(R:T->α->Prop)(hi:it ε=some ts)(hl:ts.length<=big)
  (h:∀t,t∈ts->∃ε1 a,bd t (List.replicate n .un++ε)=some ε1/\f ε1=some (E a)/\R t a):∃as:List α,ba0 n it bd bu0 f ε=some (.lst (as.map E))/\as.length=ts.length/\∀(i:Nat) t,ts[i]?=some t->∃a,as[i]?=some a/\R t a:=by
 obtain⟨as,h1,h2⟩:=iD0 (ε:=ε) (n:=n) (bd:=bd) (f:=f) E R ts h
 refine⟨as,?_,h2⟩
 unfold ba0
 rw [hi,Aa2,if_pos hl,h1]
 rfl
theorem eH0 (h:i<n):(bl0 0 n)[i]?=some (intT i):=by
 rw [ca0,Ab0,Ar6 h]
 rfl
theorem bG0 (n:Nat):(bl0 0 n).length=n:=by rw [ca0,Aa1,Ag8]
theorem hN0 (h:(bl0 0 n)[i]?=some t):i<n/\t=intT i:=by
 obtain⟨h1,h2⟩:=fT0 h
 exact⟨h1,by rw [h2,Aq6]⟩
theorem kZ0 (C:Addr)(ns:List Int):∃b:Nat,(1<=b/\b<=3)/\j8 C [scrT ns,.int 1]=some (false,intT b):=by
 have t1:φEq (.int 1) (.int 3)=some (.bl false):=by rw [eqI]; rfl
 have t2:φEq (.int 1) (.int 2)=some (.bl false):=by rw [eqI]; rfl
 have h0:0<=aC0 ns 8%2:=Ah5 _ (by decide)
 have h1:aC0 ns 8%2<2:=Ag3 _ (by decide)
 refine⟨(1+aC0 ns 8%2).toNat,by omega,?_⟩
 have e0:intT (1+aC0 ns 8%2).toNat=.int (1+aC0 ns 8%2):=by
  show T.int _=_
  rw [Int.toNat_of_nonneg (by omega)]
 rw [e0]
 unfold j8 Jc0
 refine Eq.trans (aL0 (ε:=[.sh (scrT ns),.sh (.int 1),.un]) rfl rfl) ?_
 refine Eq.trans (cg0 (aU0 (co0 rfl rfl (dC0 C ns 8 (by decide))))) ?_
 refine Eq.trans (cg0 (dH0 (cK0 ((av0 rfl rfl).trans t1)))) ?_
 refine Eq.trans (cg0 (dH0 ?_)) (fg0 ?_)
 ·unfold qAnd
  rw [cK0 (b:=false) ((av0 rfl rfl).trans t2),Aa2,if_neg Ab4]
 ·exact av0 (φ:=φAdd) (s:=.int 1) rfl ((av0 (s:=.int (aC0 ns 8)) (t:=.int 2) rfl rfl).trans (bK0 _ _ (by decide)))
section
variable (C:Addr)(ns:List Int)
theorem mV0 {ε:En}{c k:Nat}{i:Nat}(h0:eVar 0 ε=some (scrT ns))(h1:bVar i ε=some (intT k))(hk:k<5)(hc:c<=100):
  eFn (j0 C) (aa0 (eVar 0) (aa0 (e2 φAdd (eC (.int (c:Int))) (e2 φMul (eC (.int 10)) (bVar i))) aNil)) ε=some (.int (aC0 ns (c+10*k))):=by
 have s1:e2 φMul (eC (.int 10)) (bVar i) ε=some (.int (10*(k:Int))):=(av0 (s:=.int 10) (t:=intT k) rfl h1).trans (lE0 _ _ (by omega) (by omega))
 have s2:e2 φAdd (eC (.int (c:Int))) (e2 φMul (eC (.int 10)) (bVar i)) ε=some (intT (c+10*k)):=by
  rw [av0 (φ:=φAdd) (s:=.int (c:Int)) rfl s1]
  refine congrArg (λz=>some (T.int z)) ?_
  omega
 exact co0 h0 s2 (dC0 C ns _ (by omega))
theorem mR0 (k:Nat)(names:List Str)(hn:names.length<=5)(hk:k<names.length)(gaps:Int)(hg:0<=gaps/\gaps<=3):
  ∃c:Crop,j5 C [scrT ns,intT k,.lst (names.map .str),.int gaps]=some (false,au0 c)/\names[k]?=some c.name/\(-3<=c.change/\c.change<=3)/\(0<=c.harvest/\c.harvest<=1000)/\(0<=c.gap/\c.gap<=gaps)/\(∀b∈c.bars,b∈names)/\c.bars.length<=5:=by
 have hz:∀(h:Int),φIx (.lst [.int 10,.int 3,.int 1001]) (.int (aC0 ns 9%3))=some (.int h)->True:=λ_ _=>trivial
 obtain⟨hv,hv1,hv2,hv3⟩:=gR0 [10,3,1001] (aC0 ns 9%3) 3 1001 (Ah5 _ (by decide)) (Ag3 _ (by decide)) (by decide)
 have lp:=bt0 (bd:=aq0 5) (body:=sIf (qB (e2 φEq (e2 φMod (eFn (j0 C) (aa0 (eVar 0) (aa0 (e2 φAdd (e2 φAdd (eC (.int 20)) (e2 φMul (eC (.int 10)) (bVar 1))) (bVar 5)) aNil))) (eC (.int 5))) (eC (.int 1)))) (sApp 4 (e2 φIx (bVar 2) (bVar 5))) sNx)
  (λi ε=>∃(bs:List Str) (x:Sl),ε=[.sh (scrT ns),.sh (intT k),.sh (.lst (names.map .str)),.sh (.int gaps),.ow (.lst (bs.map .str)),x,.un,.un]/\(∀b∈bs,b∈names)/\bs.length<=i)
  (bl0 0 names.length) 0 [.sh (scrT ns),.sh (intT k),.sh (.lst (names.map .str)),.sh (.int gaps),.ow (.lst []),.un,.un,.un] ⟨[],.un,rfl,(λb hb=>nomatch hb),Ab1 _⟩ λi t ε ht hI=>by
   obtain⟨hi,rfl⟩:=hN0 ht
   obtain⟨bs,x,rfl,hb,hl⟩:=hI
   rw [Af9] at hl ⊢
   have s1:e2 φMul (eC (.int 10)) (bVar 1) [.sh (scrT ns),.sh (intT k),.sh (.lst (names.map .str)),.sh (.int gaps),.ow (.lst (bs.map .str)),.sh (intT i),.un,.un]=some (.int (10*(k:Int))):=(av0 (s:=.int 10) (t:=intT k) rfl rfl).trans (lE0 _ _ (by omega) (by omega))
   have s2:=av0 (φ:=φAdd) (f:=eC (.int 20)) (s:=.int 20) rfl s1
   have s3:e2 φAdd (e2 φAdd (eC (.int 20)) (e2 φMul (eC (.int 10)) (bVar 1))) (bVar 5) [.sh (scrT ns),.sh (intT k),.sh (.lst (names.map .str)),.sh (.int gaps),.ow (.lst (bs.map .str)),.sh (intT i),.un,.un]=some (intT (20+10*k+i)):=by
    rw [av0 (φ:=φAdd) (g:=bVar 5) (t:=intT i) s2 rfl]
    refine congrArg (λz=>some (T.int z)) ?_
    omega
   have s4:eFn (j0 C) (aa0 (eVar 0) (aa0 (e2 φAdd (e2 φAdd (eC (.int 20)) (e2 φMul (eC (.int 10)) (bVar 1))) (bVar 5)) aNil)) [.sh (scrT ns),.sh (intT k),.sh (.lst (names.map .str)),.sh (.int gaps),.ow (.lst (bs.map .str)),.sh (intT i),.un,.un]=some (.int (aC0 ns (20+10*k+i))):=co0 rfl s3 (dC0 C ns _ (by omega))
   have s5:=(av0 (φ:=φMod) (g:=eC (.int 5)) (t:=.int 5) s4 rfl).trans (bK0 _ 5 (by decide))
   have s6:=cK0 ((av0 (φ:=φEq) (g:=eC (.int 1)) (t:=.int 1) s5 rfl).trans (eqI _ _))
   refine⟨_,(if aC0 ns (20+10*k+i)%5=1 then [.sh (scrT ns),.sh (intT k),.sh (.lst (names.map .str)),.sh (.int gaps),.ow (.lst ((bs++ [names[i]]).map .str)),.sh (intT i),.un,.un] else [.sh (scrT ns),.sh (intT k),.sh (.lst (names.map .str)),.sh (.int gaps),.ow (.lst (bs.map .str)),.sh (intT i),.un,.un]),rfl,.inl ?_,?_⟩
   ·refine Eq.trans (hy0 s6) ?_
    by_cases hq:aC0 ns (20+10*k+i)%5=1
    ·rw [if_pos hq,if_pos (Ad9 hq)]
     have hx:φIx (.lst (names.map .str)) (intT i)=some (.str names[i]):=et0 _ i _ (by rw [Ab0,Aa4 hi]; rfl)
     refine Eq.trans (qC0 (ts:=bs.map .str) (t:=.str names[i]) rfl (by rw [Aa1]; unfold big; omega) ((av0 rfl rfl).trans hx)) ?_
     rw [Ac3]
     rfl
    ·rw [if_neg hq,if_neg (by simp [hq])]
     rfl
   ·by_cases hq:aC0 ns (20+10*k+i)%5=1
    ·rw [if_pos hq]
     refine⟨_,_,rfl,λb hb'=> ?_,by rw [Aa5]; simp; omega⟩
     rcases Ad8.mp hb' with h|h
     ·exact hb b h
     ·rw [Aa6.mp h]; exact Ak7 hi
    ·rw [if_neg hq]
     exact⟨_,_,rfl,hb,by omega⟩
 obtain⟨ε',hl,bs,x,rfl,hbs,hbl⟩:=lp
 rw [bG0] at hbl
 refine⟨⟨names[k],aC0 ns (27+10*k)%7 - 3,aC0 ns (26+10*k)%hv,aC0 ns (28+10*k)%(gaps+1),bs⟩,?_,Aa4 hk,?_,?_,?_,hbs,by show bs.length<=5; omega⟩
 ·unfold j5 Kc0
  refine Eq.trans (aL0 (ε:=[.sh (scrT ns),.sh (intT k),.sh (.lst (names.map .str)),.sh (.int gaps),.un,.un,.un,.un]) rfl rfl) ?_
  refine Eq.trans (cg0 (iQ0 (t:=.lst []) (oj0 rfl (Ae5 _)) rfl)) ?_
  refine Eq.trans (cg0 (cy0 (dI0 (n:=names.length) (aB0 (dN0 rfl (by show some (T.int _)=_; rw [Aa1])) rfl) (by omega)) hl)) ?_
  have d26:=mV0 C ns (ε:=[.sh (scrT ns),.sh (intT k),.sh (.lst (names.map .str)),.sh (.int gaps),.ow (.lst (bs.map .str)),x,.un,.un]) (c:=26) (k:=k) (i:=1) rfl rfl (by omega) (by decide)
  have d9:eFn (j0 C) (aa0 (eVar 0) (aa0 (eC (.int 9)) aNil)) [.sh (scrT ns),.sh (intT k),.sh (.lst (names.map .str)),.sh (.int gaps),.ow (.lst (bs.map .str)),x,.un,.un]=some (.int (aC0 ns 9)):=co0 rfl rfl (dC0 C ns 9 (by decide))
  have i9:=(av0 (φ:=φIx) (f:=eLst (aa0 (eC (.int 10)) (aa0 (eC (.int 3)) (aa0 (eC (.int 1001)) aNil)))) (s:=.lst [.int 10,.int 3,.int 1001]) rfl ((av0 (φ:=φMod) (g:=eC (.int 3)) (t:=.int 3) d9 rfl).trans (bK0 _ 3 (by decide)))).trans hv1
  refine Eq.trans (cg0 (aU0 ((av0 (φ:=φMod) d26 i9).trans (bK0 _ _ (by omega))))) ?_
  have d27:=mV0 C ns (ε:=[.sh (scrT ns),.sh (intT k),.sh (.lst (names.map .str)),.sh (.int gaps),.ow (.lst (bs.map .str)),x,.sh (.int (aC0 ns (26+10*k)%hv)),.un]) (c:=27) (k:=k) (i:=1) rfl rfl (by omega) (by decide)
  refine Eq.trans (cg0 (aU0 (av0 (φ:=φSub) (t:=.int 3) ((av0 (φ:=φMod) (t:=.int 7) d27 rfl).trans (bK0 _ _ (by decide))) rfl))) ?_
  have d28:=mV0 C ns (ε:=[.sh (scrT ns),.sh (intT k),.sh (.lst (names.map .str)),.sh (.int gaps),.sh (.lst (bs.map .str)),x,.sh (.int (aC0 ns (26+10*k)%hv)),.sh (.int (aC0 ns (27+10*k)%7 - 3))]) (c:=28) (k:=k) (i:=1) rfl rfl (by omega) (by decide)
  have hx:φIx (.lst (names.map .str)) (intT k)=some (.str names[k]):=et0 _ k _ (by rw [Ab0,Aa4 hk]; rfl)
  refine fg0 ?_
  refine fW0 (aB0 ((av0 rfl rfl).trans hx) (aB0 rfl (aB0 rfl (aB0 ((av0 (φ:=φMod) d28 (av0 (φ:=φAdd) (s:=.int gaps) (t:=.int 1) rfl rfl)).trans (bK0 _ _ (by omega))) (aB0 rfl rfl))))) (show (5:Nat)<=1000000 by decide)
 ·have a:=Ah5 (aC0 ns (27+10*k)) (show (7:Int)≠0 by decide)
  have b:=Ag3 (aC0 ns (27+10*k)) (show (0:Int)<7 by decide)
  show -3<=aC0 ns (27+10*k)%7 - 3/\aC0 ns (27+10*k)%7 - 3<=3
  omega
 ·have a:=Ah5 (aC0 ns (26+10*k)) (show hv≠0 by omega)
  have b:=Ag3 (aC0 ns (26+10*k)) (show 0<hv by omega)
  show 0<=aC0 ns (26+10*k)%hv/\aC0 ns (26+10*k)%hv<=1000
  omega
 ·have a:=Ah5 (aC0 ns (28+10*k)) (show gaps+1≠0 by omega)
  have b:=Ag3 (aC0 ns (28+10*k)) (show 0<gaps+1 by omega)
  show 0<=aC0 ns (28+10*k)%(gaps+1)/\aC0 ns (28+10*k)%(gaps+1)<=gaps
  omega
theorem qA0 (h:∀w∈ws,w.1≠x)(a b:Int):putT (ws.map λx=>(x.1,T.tup [.int x.2.1,.int x.2.2])) x (.tup [.int a,.int b])=(ws++ [(x,a,b)]).map λx=>(x.1,T.tup [.int x.2.1,.int x.2.2]):=by
 unfold putT
 rw [if_neg,Ac3]
 ·rfl
 ·intro z
  obtain⟨q,hq,e⟩:=Ap8.mp z
  obtain⟨w,hw,rfl⟩:=Ac0.mp hq
  exact h w hw (of_decide_eq_true e)
theorem kK0 (names:List Str)(hn:names.length<=5)(nd:names.Nodup)(b:Nat)(hb:b<=3):
  ∃ws:List (Str × Int × Int),v8 C [scrT ns,.lst (names.map .str),intT b]=some (true,aP0 ws)/\(ws.map (·.1)).Nodup/\(∀x∈ws,x.1∈names)/\(∀x∈ws,0<=x.2.1/\x.2.1<=x.2.2/\x.2.2<=3)/\ws.length<=5:=by
 have lp:=bt0 (bd:=aq0 4) (body:=sSeq (sSet 5 (eFn (j0 C) (aa0 (eVar 0) (aa0 (e2 φAdd (eC (.int 80)) (bVar 4)) aNil))))
  (sIf (qB (e2 φEq (e2 φMod (bVar 5) (eC (.int 5))) (eC (.int 1)))) (sSeq (sSet 6 (e2 φIx (eLst (aa0 (eC (.int 0)) (aa0 (eC (.int 0)) (aa0 (eC (.int 1)) (aa0 (eVar 2) aNil))))) (e2 φMod (e2 φDiv (bVar 5) (eC (.int 5))) (eC (.int 4)))))
  (BD.sDPut 3 (e2 φIx (bVar 1) (bVar 4)) (eTup (aa0 (eVar 6) (aa0 (ay0 ed0 (aa0 (eC (.int 3)) (aa0 (e2 φAdd (bVar 6) (e2 φMod (e2 φDiv (bVar 5) (eC (.int 20))) (e2 φAdd (bVar 2) (eC (.int 1))))) aNil))) aNil))))) sNx))
  (λi ε=>∃(ws:List (Str × Int × Int)) (x4 x5 x6:Sl),ε=[.sh (scrT ns),.sh (.lst (names.map .str)),.sh (intT b),.ow (aP0 ws),x4,x5,x6]/\(ws.map (·.1)).Nodup/\(∀x∈ws,∃j,j<i/\names[j]?=some x.1)/\(∀x∈ws,0<=x.2.1/\x.2.1<=x.2.2/\x.2.2<=3)/\ws.length<=i)
  (bl0 0 names.length) 0 [.sh (scrT ns),.sh (.lst (names.map .str)),.sh (intT b),.ow (aP0 []),.un,.un,.un] ⟨[],.un,.un,.un,rfl,Ag6,(λx hx=>nomatch hx),(λx hx=>nomatch hx),Ab1 _⟩ λi t ε ht hI=>by
   obtain⟨hi,rfl⟩:=hN0 ht
   obtain⟨ws,x4,x5,x6,rfl,h1,h2,h3,h4⟩:=hI
   rw [Af9] at h2 h4 ⊢
   have s1:e2 φAdd (eC (.int 80)) (bVar 4) [.sh (scrT ns),.sh (.lst (names.map .str)),.sh (intT b),.ow (aP0 ws),.sh (intT i),x5,x6]=some (intT (80+i)):=by
    rw [av0 (φ:=φAdd) (s:=.int 80) (t:=intT i) rfl rfl]
    refine congrArg (λz=>some (T.int z)) ?_
    omega
   have s2:eFn (j0 C) (aa0 (eVar 0) (aa0 (e2 φAdd (eC (.int 80)) (bVar 4)) aNil)) [.sh (scrT ns),.sh (.lst (names.map .str)),.sh (intT b),.ow (aP0 ws),.sh (intT i),x5,x6]=some (.int (aC0 ns (80+i))):=co0 rfl s1 (dC0 C ns _ (by omega))
   have s3:e2 φMod (bVar 5) (eC (.int 5)) [.sh (scrT ns),.sh (.lst (names.map .str)),.sh (intT b),.ow (aP0 ws),.sh (intT i),.sh (.int (aC0 ns (80+i))),x6]=some (.int (aC0 ns (80+i)%5)):=(av0 (s:=.int (aC0 ns (80+i))) (t:=.int 5) rfl rfl).trans (bK0 _ _ (by decide))
   have s4:=cK0 ((av0 (φ:=φEq) (g:=eC (.int 1)) (t:=.int 1) s3 rfl).trans (eqI _ _))
   by_cases hq:aC0 ns (80+i)%5=1
   ·obtain⟨lv,l1,l2,l3⟩:=gR0 [0,0,1,(b:Int)] (aC0 ns (80+i) / 5%4) 0 3 (Ah5 _ (by decide)) (Ag3 _ (by decide)) (by
     intro x hx
     simp only [Ab2,Ad0,Ah8] at hx
     omega)
    have m0:=Ah5 (aC0 ns (80+i) / 20) (show (b:Int)+1≠0 by omega)
    have hx:φIx (.lst (names.map .str)) (intT i)=some (.str names[i]):=et0 _ i _ (by rw [Ab0,Aa4 hi]; rfl)
    have fresh:∀w∈ws,w.1≠names[i]:=λw hw z=>by
     obtain⟨j,hj,e⟩:=h2 w hw
     rw [z] at e
     have:=(List.getElem?_inj (Aa9.mp e).1 nd).mp (e.trans (Aa4 hi).symm)
     omega
    have d5:e2 φMod (e2 φDiv (bVar 5) (eC (.int 5))) (eC (.int 4)) [.sh (scrT ns),.sh (.lst (names.map .str)),.sh (intT b),.ow (aP0 ws),.sh (intT i),.sh (.int (aC0 ns (80+i))),x6]=some (.int (aC0 ns (80+i) / 5%4)):=(av0 (t:=.int 4) ((av0 (s:=.int (aC0 ns (80+i))) (t:=.int 5) rfl rfl).trans (mn0 _ _ (by decide) (by decide))) rfl).trans (bK0 _ _ (by decide))
    have r6:=aU0 (i:=6) ((av0 (φ:=φIx) (f:=eLst (aa0 (eC (.int 0)) (aa0 (eC (.int 0)) (aa0 (eC (.int 1)) (aa0 (eVar 2) aNil))))) (s:=.lst [.int 0,.int 0,.int 1,intT b]) rfl d5).trans l1)
    have d20:e2 φMod (e2 φDiv (bVar 5) (eC (.int 20))) (e2 φAdd (bVar 2) (eC (.int 1))) [.sh (scrT ns),.sh (.lst (names.map .str)),.sh (intT b),.ow (aP0 ws),.sh (intT i),.sh (.int (aC0 ns (80+i))),.sh (.int lv)]=some (.int (aC0 ns (80+i) / 20%((b:Int)+1))):=(av0 ((av0 (s:=.int (aC0 ns (80+i))) (t:=.int 20) rfl rfl).trans (mn0 _ _ (by decide) (by decide))) (av0 (φ:=φAdd) (s:=intT b) (t:=.int 1) rfl rfl)).trans (bK0 _ _ (by omega))
    have a6:=av0 (φ:=φAdd) (f:=bVar 6) (s:=.int lv) rfl d20
    have mn:=hD0 (φ:=ed0) (E:=eC (.int 3)) (s:=.int 3) rfl a6 rfl
    have tp:=fW0 (aB0 (f:=eVar 6) (t:=.int lv) rfl (aB0 (g:=aNil) (ts:=[]) mn rfl)) (show (2:Nat)<=1000000 by decide)
    have pt:=oq0 (i:=3) (fk:=e2 φIx (bVar 1) (bVar 4)) (k:=names[i]) (kts:=ws.map λx=>(x.1,T.tup [.int x.2.1,.int x.2.2])) rfl (by rw [Aa1]; unfold big; omega) tp ((av0 (s:=.lst (names.map .str)) (t:=intT i) rfl rfl).trans hx)
    rw [qA0 fresh] at pt
    refine⟨_,_,rfl,.inl (Eq.trans (aG0 (aU0 s2)) (Eq.trans (hy0 s4) (Eq.trans (if_pos (Ad9 hq)) (Eq.trans (aG0 r6) pt)))),?_⟩
    refine⟨ws++ [(names[i],lv,_)],_,_,_,rfl,?_,λx hx'=> ?_,λx hx'=> ?_,by rw [Aa5]; simp; omega⟩
    ·rw [Ac3]
     refine kX0 h1 λz=> ?_
     obtain⟨w,hw,e⟩:=Ac0.mp z
     exact fresh w hw e
    ·rcases Ad8.mp hx' with h|h
     ·obtain⟨j,hj,e⟩:=h2 x h
      exact⟨j,by omega,e⟩
     ·rw [Aa6.mp h]
      exact⟨i,by omega,Aa4 hi⟩
    ·rcases Ad8.mp hx' with h|h
     ·exact h3 x h
     ·rw [Aa6.mp h]
      show 0<=lv/\lv<=(if lv+aC0 ns (80+i) / 20%((b:Int)+1)<3 then lv+aC0 ns (80+i) / 20%((b:Int)+1) else 3)/\(if lv+aC0 ns (80+i) / 20%((b:Int)+1)<3 then lv+aC0 ns (80+i) / 20%((b:Int)+1) else 3)<=(3:Int)
      split
      ·omega
      ·omega
   ·refine⟨_,_,rfl,.inl (Eq.trans (aG0 (aU0 s2)) (Eq.trans (hy0 s4) (if_neg (by simp [hq])))),?_⟩
    exact⟨ws,_,_,_,rfl,h1,(λx hx=>let ⟨j,hj,e⟩:=h2 x hx; ⟨j,by omega,e⟩),h3,by omega⟩
 obtain⟨ε',hl,ws,x4,x5,x6,rfl,h1,h2,h3,h4⟩:=lp
 rw [bG0] at h4
 refine⟨ws,?_,h1,λx hx=> ?_,h3,by omega⟩
 ·unfold v8 Wc0
  refine Eq.trans (aL0 (ε:=[.sh (scrT ns),.sh (.lst (names.map .str)),.sh (intT b),.un,.un,.un,.un]) rfl rfl) ?_
  refine Eq.trans (cg0 (iQ0 (t:=.dct []) rfl rfl)) ?_
  refine Eq.trans (cg0 (cy0 (dI0 (n:=names.length) (aB0 (dN0 rfl (by show some (T.int _)=_; rw [Aa1])) rfl) (by omega)) hl)) ?_
  rfl
 ·obtain⟨j,_,e⟩:=h2 x hx
  exact Ac7 e
theorem lc0 (ts:List T)(lo hi:Option Int):(cutT ts lo hi).length<=ts.length:=by
 unfold cutT
 rw [Af7,Ak6]
 omega
theorem lk0 {f:En->Option T}{lo hi:En->Option (Option Int)}(hf:f ε=some (.lst ts))(h1:lo ε=some l)(h2:hi ε=some h):eSlL f lo hi ε=some (.lst (cutT ts l h)):=by
 unfold eSlL
 rw [hf]
 show (lo ε).bind _=_
 rw [h1,Aa2,h2]
 rfl
theorem gc0 {f:En->Option T}(h:f ε=some (.int i)):bk0 (some f) ε=some (some i):=by
 unfold bk0
 simp only [h]
theorem mM0 {ts:List T}(hl:ts.length<=1000)(h7:bVar 7 ε=some (.lst ts))(h6:bVar 6 ε=some (.int t))(h4:bVar 4 ε=some (.int m)):
  eSlL (e2 gr0 (eSlL (bVar 7) (bk0 (some (bVar 6))) (bk0 none)) (eSlL (bVar 7) (bk0 none) (bk0 (some (bVar 6))))) (bk0 none) (bk0 (some (bVar 4))) ε=some (.lst (cutT (cutT ts (some t) none++cutT ts none (some t)) none (some m))):=by
 have c1:=lk0 (lo:=bk0 (some (bVar 6))) (hi:=bk0 none) h7 (gc0 h6) rfl
 have c2:=lk0 (lo:=bk0 none) (hi:=bk0 (some (bVar 6))) h7 rfl (gc0 h6)
 have c3:gr0 (.lst (cutT ts (some t) none)) (.lst (cutT ts none (some t)))=some (.lst (cutT ts (some t) none++cutT ts none (some t))):=by
  show (if _ then _ else _)=_
  rw [if_pos]
  have a:=lc0 ts (some t) none
  have b:=lc0 ts none (some t)
  unfold big
  omega
 exact lk0 ((av0 c1 c2).trans c3) rfl (gc0 h4)
theorem kD0 (t m:Int)(ht:0<=t/\t<5)(hm:1<=m/\m<=4):∃names:List Str,(cutT (cutT ((["bean", "rye", "kale", "oat", "pea"]:List Str).map T.str) (some t) none++cutT ((["bean", "rye", "kale", "oat", "pea"]:List Str).map T.str) none (some t)) none (some m))=names.map T.str/\(names.length:Int)=m/\names.Nodup/\∀x∈names,x≠ "" :=by
 have h1:t=0\/ t=1\/ t=2\/ t=3\/ t=4:=by omega
 have h2:m=1\/ m=2\/ m=3\/ m=4:=by omega
 rcases h1 with rfl|rfl|rfl|rfl|rfl<;>rcases h2 with rfl|rfl|rfl|rfl
 ·exact⟨["bean"],rfl,rfl,by decide +kernel,by decide +kernel⟩
 ·exact⟨["bean", "rye"],rfl,rfl,by decide +kernel,by decide +kernel⟩
 ·exact⟨["bean", "rye", "kale"],rfl,rfl,by decide +kernel,by decide +kernel⟩
 ·exact⟨["bean", "rye", "kale", "oat"],rfl,rfl,by decide +kernel,by decide +kernel⟩
 ·exact⟨["rye"],rfl,rfl,by decide +kernel,by decide +kernel⟩
 ·exact⟨["rye", "kale"],rfl,rfl,by decide +kernel,by decide +kernel⟩
 ·exact⟨["rye", "kale", "oat"],rfl,rfl,by decide +kernel,by decide +kernel⟩
 ·exact⟨["rye", "kale", "oat", "pea"],rfl,rfl,by decide +kernel,by decide +kernel⟩
 ·exact⟨["kale"],rfl,rfl,by decide +kernel,by decide +kernel⟩
 ·exact⟨["kale", "oat"],rfl,rfl,by decide +kernel,by decide +kernel⟩
 ·exact⟨["kale", "oat", "pea"],rfl,rfl,by decide +kernel,by decide +kernel⟩
 ·exact⟨["kale", "oat", "pea", "bean"],rfl,rfl,by decide +kernel,by decide +kernel⟩
 ·exact⟨["oat"],rfl,rfl,by decide +kernel,by decide +kernel⟩
 ·exact⟨["oat", "pea"],rfl,rfl,by decide +kernel,by decide +kernel⟩
 ·exact⟨["oat", "pea", "bean"],rfl,rfl,by decide +kernel,by decide +kernel⟩
 ·exact⟨["oat", "pea", "bean", "rye"],rfl,rfl,by decide +kernel,by decide +kernel⟩
 ·exact⟨["pea"],rfl,rfl,by decide +kernel,by decide +kernel⟩
 ·exact⟨["pea", "bean"],rfl,rfl,by decide +kernel,by decide +kernel⟩
 ·exact⟨["pea", "bean", "rye"],rfl,rfl,by decide +kernel,by decide +kernel⟩
 ·exact⟨["pea", "bean", "rye", "kale"],rfl,rfl,by decide +kernel,by decide +kernel⟩
theorem is0 (b:Nat)(hb:1<=b/\b<=3):∃p:Plot,Z8 C [scrT ns,intT b]=some (false,aD0 p)/\Bound p/\p.soils.length=b/\(1<p.soils.length->p.top=1/\p.crops.length<=2/\∀c∈p.crops,c.gap<=1):=by
 have m0:=Ah5 (aC0 ns 1) (show (8:Int)≠0 by decide)
 have m1:=Ag3 (aC0 ns 1) (show (0:Int)<8 by decide)
 obtain⟨top,t1,t2,t3⟩:=gR0 [1,2,3,3,2,5,4,1] (aC0 ns 1%8) 1 5 m0 m1 (by decide)
 obtain⟨many,n1,n2,n3⟩:=gR0 [4,3,4,3,2,2,2,3] (aC0 ns 1%8) 1 4 m0 m1 (by decide)
 obtain⟨gaps,g1,g2,g3⟩:=gR0 [1,2,2,1,3,2,3,3] (aC0 ns 1%8) 0 3 m0 m1 (by decide)
 have u0:=Ah5 (aC0 ns 3) (show (5:Int)≠0 by decide)
 have u1:=Ag3 (aC0 ns 3) (show (0:Int)<5 by decide)
 have v0:=Ah5 (aC0 ns 2) (show (2:Int)≠0 by decide)
 have v1:=Ag3 (aC0 ns 2) (show (0:Int)<2 by decide)
 have w0:=Ah5 (aC0 ns 4) (show (2:Int)≠0 by decide)
 have w1:=Ag3 (aC0 ns 4) (show (0:Int)<2 by decide)
 have dr:∀(k:Nat) (hk:k<=1000) (z:Int) (hz:z=(k:Int)) (ε:En) (h0:eVar 0 ε=some (scrT ns)),eFn (j0 C) (aa0 (eVar 0) (aa0 (eC (.int z)) aNil)) ε=some (.int (aC0 ns k)):=λk hk z hz ε h0=>by
  subst hz
  exact co0 h0 rfl (dC0 C ns k hk)
 -- the sizes,with one bed or more
 have sz:∃top' many' gaps':Int,(1<=top'/\top'<=5)/\(1<=many'/\many'<=4)/\(0<=gaps'/\gaps'<=3)/\(1<b->top'=1/\many'<=2/\gaps'<=1)/\sIf (qB (e2 φGt (bVar 1) (eC (.int 1)))) (sSeq (sSet 3 (eC (.int 1)))
  (sSeq (sSet 4 (e2 φAdd (eC (.int 1)) (e2 φMod (eFn (j0 C) (aa0 (eVar 0) (aa0 (eC (.int 2)) aNil))) (eC (.int 2)))))
  (sSet 5 (e2 φMod (eFn (j0 C) (aa0 (eVar 0) (aa0 (eC (.int 4)) aNil))) (eC (.int 2)))))) sNx [.sh (scrT ns),.sh (intT b),.sh (.int (aC0 ns 1%8)),.sh (.int top),.sh (.int many),.sh (.int gaps),.un,.un,.un,.un]=
   some (.nx [.sh (scrT ns),.sh (intT b),.sh (.int (aC0 ns 1%8)),.sh (.int top'),.sh (.int many'),.sh (.int gaps'),.un,.un,.un,.un]):=by
  have q:qB (e2 φGt (bVar 1) (eC (.int 1))) [.sh (scrT ns),.sh (intT b),.sh (.int (aC0 ns 1%8)),.sh (.int top),.sh (.int many),.sh (.int gaps),.un,.un,.un,.un]=some (decide ((1:Int)<(b:Int))):=rfl
  by_cases h:(1:Int)<(b:Int)
  ·refine⟨1,1+aC0 ns 2%2,aC0 ns 4%2,by omega,by omega,by omega,λ_=>by omega,?_⟩
   refine Eq.trans (hy0 q) (Eq.trans (if_pos (Ad9 h)) ?_)
   refine Eq.trans (aG0 (aU0 (t:=.int 1) rfl)) ?_
   refine Eq.trans (aG0 (aU0 (av0 (φ:=φAdd) (s:=.int 1) rfl ((av0 (t:=.int 2) (dr 2 (by decide) 2 rfl _ rfl) rfl).trans (bK0 _ _ (by decide)))))) ?_
   exact aU0 ((av0 (t:=.int 2) (dr 4 (by decide) 4 rfl _ rfl) rfl).trans (bK0 _ _ (by decide)))
  ·exact⟨top,many,gaps,⟨t2,t3⟩,⟨n2,n3⟩,⟨g2,g3⟩,λz=>absurd (by omega) h,Eq.trans (hy0 q) (if_neg (by simp [h]))⟩
 obtain⟨top',many',gaps',tb,mb,gb,mny,hsz⟩:=sz
 obtain⟨names,nm1,nm2,nm3,nm4⟩:=kD0 (aC0 ns 3%5) many' ⟨u0,u1⟩ mb
 obtain⟨ws,ws1,ws2,ws3,ws4,ws5⟩:=kK0 C ns names (by omega) nm3 b hb.2
 have hmn:many'=((names.length:Nat):Int):=nm2.symm
 -- the crops
 obtain⟨cs,cs1,cs2,cs3⟩:=iF0 (n:=1) (it:=aY0 (aa0 (bVar 4) aNil)) (bd:=aq0 0) (ε:=[.sh (scrT ns),.sh (intT b),.sh (.int (aC0 ns 1%8)),.sh (.int top'),.sh (.int many'),.sh (.int gaps'),.sh (.int (aC0 ns 3%5)),.sh (.lst (names.map .str)),.un,.un])
  (f:=eFn (j5 C) (aa0 (eVar 1) (aa0 (eVar 0) (aa0 (eVar 8) (aa0 (eVar 6) aNil))))) (ts:=bl0 0 names.length) au0
  (λt c=>∃k:Nat,t=intT k/\names[k]?=some c.name/\(-3<=c.change/\c.change<=3)/\(0<=c.harvest/\c.harvest<=1000)/\(0<=c.gap/\c.gap<=gaps')/\(∀b∈c.bars,b∈names)/\c.bars.length<=5)
  (dI0 (aB0 (by rw [hmn]; rfl) rfl) (by omega)) (by rw [bG0]; unfold big; omega) λt ht=>by
   obtain⟨k,hk,rfl⟩:=dd0 ht
   obtain⟨c,c1,c2⟩:=mR0 C ns k names (by omega) hk gaps' gb
   refine⟨[.sh (intT k),.sh (scrT ns),.sh (intT b),.sh (.int (aC0 ns 1%8)),.sh (.int top'),.sh (.int many'),.sh (.int gaps'),.sh (.int (aC0 ns 3%5)),.sh (.lst (names.map .str)),.un,.un],c,rfl,?_,k,rfl,c2⟩
   unfold eFn
   rw [aB0 (f:=eVar 1) (t:=scrT ns) rfl (aB0 (f:=eVar 0) (t:=intT k) rfl (aB0 (f:=eVar 8) (t:=.lst (names.map .str)) rfl (aB0 (f:=eVar 6) (t:=.int gaps') rfl rfl))),Aa2,c1]
   rfl
 rw [bG0] at cs2
 have csn:cs.map (·.name)=names:=by
  apply List.ext_getElem?
  intro i
  by_cases hi:i<names.length
  ·obtain⟨c,q1,k,q2,q3,_⟩:=cs3 i _ (eH0 hi)
   have:i=k:=by
    have:=T.int.inj q2
    omega
   subst this
   rw [Ab0,q1,q3]
   rfl
  ·rw [Ai9 (by rw [Aa1]; omega),Ai9 (by omega)]
 have csp:∀c∈cs,(-3<=c.change/\c.change<=3)/\(0<=c.harvest/\c.harvest<=1000)/\(0<=c.gap/\c.gap<=gaps')/\(∀b∈c.bars,b∈names)/\c.bars.length<=5:=λc hc=>by
  obtain⟨i,hi,e⟩:=An6.mp hc
  obtain⟨c',q1,k,q2,q3,q4⟩:=cs3 i _ (eH0 (by omega))
  rw [Aa4 hi,e] at q1
  cases q1
  exact q4
 -- the soils
 obtain⟨ss,ss1,ss2,ss3⟩:=iF0 (n:=1) (it:=aY0 (aa0 (bVar 1) aNil)) (bd:=aq0 0) (ε:=[.sh (scrT ns),.sh (intT b),.sh (.int (aC0 ns 1%8)),.sh (.int top'),.sh (.int many'),.sh (.int gaps'),.sh (.int (aC0 ns 3%5)),.sh (.lst (names.map .str)),.sh (.lst (cs.map au0)),.un])
  (f:=e2 φMod (eFn (j0 C) (aa0 (eVar 1) (aa0 (e2 φAdd (eC (.int 5)) (bVar 0)) aNil))) (e2 φAdd (bVar 4) (eC (.int 1)))) (ts:=bl0 0 b) T.int
  (λ_ x=>0<=x/\x<=top') (dI0 (aB0 rfl rfl) (by omega)) (by rw [bG0]; unfold big; omega) λt ht=>by
   obtain⟨k,hk,rfl⟩:=dd0 ht
   have s1:e2 φAdd (eC (.int 5)) (bVar 0) [.sh (intT k),.sh (scrT ns),.sh (intT b),.sh (.int (aC0 ns 1%8)),.sh (.int top'),.sh (.int many'),.sh (.int gaps'),.sh (.int (aC0 ns 3%5)),.sh (.lst (names.map .str)),.sh (.lst (cs.map au0)),.un]=some (intT (5+k)):=by
    rw [av0 (φ:=φAdd) (s:=.int 5) (t:=intT k) rfl rfl]
    refine congrArg (λz=>some (T.int z)) ?_
    omega
   have s2:eFn (j0 C) (aa0 (eVar 1) (aa0 (e2 φAdd (eC (.int 5)) (bVar 0)) aNil)) [.sh (intT k),.sh (scrT ns),.sh (intT b),.sh (.int (aC0 ns 1%8)),.sh (.int top'),.sh (.int many'),.sh (.int gaps'),.sh (.int (aC0 ns 3%5)),.sh (.lst (names.map .str)),.sh (.lst (cs.map au0)),.un]=some (.int (aC0 ns (5+k))):=co0 rfl s1 (dC0 C ns _ (by omega))
   have a:=Ah5 (aC0 ns (5+k)) (show top'+1≠0 by omega)
   have b:=Ag3 (aC0 ns (5+k)) (show 0<top'+1 by omega)
   refine⟨_,aC0 ns (5+k)%(top'+1),rfl,(av0 s2 (av0 (φ:=φAdd) (s:=.int top') (t:=.int 1) rfl rfl)).trans (bK0 _ _ (by omega)),a,by omega⟩
 rw [bG0] at ss2
 refine⟨⟨ss,top',cs,ws⟩,?_,?_,ss2,λz=> ?_⟩
 ·unfold Z8 Yc0
  refine Eq.trans (aL0 (ε:=[.sh (scrT ns),.sh (intT b),.un,.un,.un,.un,.un,.un,.un,.un]) rfl rfl) ?_
  refine Eq.trans (cg0 (aU0 ((av0 (t:=.int 8) (dr 1 (by decide) 1 rfl _ rfl) rfl).trans (bK0 _ _ (by decide))))) ?_
  refine Eq.trans (cg0 (aU0 ((av0 (s:=.lst ([1,2,3,3,2,5,4,1].map .int)) (t:=.int (aC0 ns 1%8)) rfl rfl).trans t1))) ?_
  refine Eq.trans (cg0 (aU0 ((av0 (s:=.lst ([4,3,4,3,2,2,2,3].map .int)) (t:=.int (aC0 ns 1%8)) rfl rfl).trans n1))) ?_
  refine Eq.trans (cg0 (aU0 ((av0 (s:=.lst ([1,2,2,1,3,2,3,3].map .int)) (t:=.int (aC0 ns 1%8)) rfl rfl).trans g1))) ?_
  refine Eq.trans (cg0 hsz) ?_
  refine Eq.trans (cg0 (aU0 ((av0 (t:=.int 5) (dr 3 (by decide) 3 rfl _ rfl) rfl).trans (bK0 _ _ (by decide))))) ?_
  refine Eq.trans (cg0 (aU0 (t:=.lst ((["bean", "rye", "kale", "oat", "pea"]:List Str).map T.str)) rfl)) ?_
  refine Eq.trans (cg0 (aU0 (t:=.lst (names.map .str)) ?_)) ?_
  ·rw [<- nm1]
   exact mM0 (by decide) rfl rfl rfl
  refine Eq.trans (cg0 (aU0 cs1)) ?_
  refine Eq.trans (cg0 (aU0 ss1)) ?_
  refine fg0 ?_
  refine fW0 (aB0 rfl (aB0 rfl (aB0 rfl (aB0 ?_ rfl)))) (show (4:Nat)<=1000000 by decide)
  unfold eFnF
  rw [aB0 (f:=eVar 0) (t:=scrT ns) rfl (aB0 (f:=eVar 7) (t:=.lst (names.map .str)) rfl (aB0 (f:=eVar 1) (t:=intT b) rfl rfl)),Aa2,ws1]
 ·exact { nd := by show (cs.map (·.name)).Nodup; rw [csn]; exact nm3
          bars:=λc hc x hx=>by show x∈cs.map (·.name); rw [csn]; exact(csp c hc).2.2.2.1 x hx
          wants:=λx hx=>by show x.1∈cs.map (·.name); rw [csn]; exact ws3 x hx
          gaps:=λc hc=>(csp c hc).2.2.1.1
          few:=by show cs.length<=5; omega
          keys:=ws2
          beds:=by show 1<=ss.length/\ss.length<=3; omega
          top:=tb
          soil:=λx hx=>by
           obtain⟨i,hi,e⟩:=An6.mp hx
           have hi':i<ss.length:=hi
           obtain⟨x',q1,q2⟩:=ss3 i _ (eH0 (by omega))
           have e':ss[i]=x:=e
           rw [Aa4 hi',e'] at q1
           cases q1
           exact q2
          some:=by show 1<=cs.length; omega
          text:=λc hc=>nm4 _ (by rw [<- csn]; exact Ac0.mpr ⟨c,hc,rfl⟩)
          chg:=λc hc=>(csp c hc).1
          har:=λc hc=>(csp c hc).2.1
          gap:=λc hc=>by have:=(csp c hc).2.2.1; omega
          bar:=λc hc=>by have:=(csp c hc).2.2.2.2; omega
          want:=ws4
          fewW:=by show ws.length<=1000; omega}
 ·have:=mny (by rw [<- ss2]; exact z)
  exact⟨this.1,by show cs.length<=2; omega,λc hc=>by have:=(csp c hc).2.2.1; omega⟩
end
inductive Reach (p:Plot):Stt->Prop
 |start:Reach p (aE0 p)
 |step {s:Stt} {r:List Nat} (h:Reach p s) (m:r∈mayM p s):Reach p (an0 p s r)
structure Tight (p:Plot):Prop extends Bound p where
 many:1<p.soils.length->p.top=1/\p.crops.length<=2/\∀c∈p.crops,c.gap<=1
theorem fh0 (m:r∈mayM p s):r.length=s.length/\(∀x∈s.zip r,okM p x=true)/\∀c∈r,c<p.crops.length:=by
 have h:=may_mem.mp m
 unfold pZ0 at h
 rw [Ac8,Ac8,Ag4,An4] at h
 refine⟨h.1.1,h.1.2,λc hc=> ?_⟩
 obtain⟨i,hi,e⟩:=An6.mp hc
 have hz:(s[i]'(by omega),r[i])∈s.zip r:=by
  refine An6.mpr ⟨i,by rw [Aq7]; omega,by rw [List.getElem_zip]⟩
 have:=h.1.2 _ hz
 unfold okM at this
 rw [Ac8,Ag4,e] at this
 exact this.1
structure Ran (p:Plot)(s:Stt):Prop extends Lives p s where
 soil:∀b∈s,0<=b.1/\b.1<=p.top
theorem Reach.ran (hp:Bound p)(h:Reach p s):Ran p s:=by
 induction h with
 |start=>
  refine⟨iw0 hp.beds.2,λb hb=> ?_⟩
  obtain⟨x,hx,rfl⟩:=Ac0.mp hb
  exact hp.soil x hx
 | @step s r _ m ih=>
  obtain⟨h1,h2,h3⟩:=fh0 m
  refine⟨gK0 ih.toLives h1 h3,λb hb=> ?_⟩
  obtain⟨⟨b0,c⟩,hx,rfl⟩:=Ac0.mp hb
  have ok:=h2 _ hx
  unfold okM dt0 at ok
  have ht:=hp.top.1
  show 0<=(if b0.1+((p.crops[c]?).map (·.change)).getD 0<p.top then b0.1+((p.crops[c]?).map (·.change)).getD 0 else p.top)/\(if b0.1+((p.crops[c]?).map (·.change)).getD 0<p.top then b0.1+((p.crops[c]?).map (·.change)).getD 0 else p.top)<=p.top
  cases q:p.crops[c]? with
  |none=>simp [q] at ok
  |some d=>
   simp only [q,Ac8,Ag4] at ok
   have:=ok.2.1.1
   simp only [Ad5,Ap6]
   split<;>omega
theorem fu0 {α:Type} [DecidableEq α]:∀{l m:List α},l.Nodup->(∀x∈l,x∈m)->l.length<=m.length
 | [],_,_,_=>Ae5 _
 |x::l,m,nd,h=>by
  have hx:=h x (.head _)
  have nd':=Ae8.mp nd
  have:=fu0 (m:=m.erase x) nd'.2 λy hy=>(List.mem_erase_of_ne (λ(e:y=x)=>nd'.1 (e▸hy))).mpr (h y (.tail _ hy))
  rw [List.length_erase_of_mem hx] at this
  have:=List.length_pos_of_mem hx
  rw [Ac4]
  omega
def allL (k:Nat):Nat->List (List Nat)
 |0=> [[]]
 |n+1=>(List.range k).flatMap λd=>(allL k n).map (d:: ·)
theorem iy0 (k:Nat):∀n,(allL k n).length=k^n
 |0=>rfl
 |n+1=>by
  unfold allL
  rw [List.length_flatMap]
  simp only [Aa1,iy0 k n]
  rw [List.map_const',List.sum_replicate_nat,Ag8,Nat.pow_succ,Nat.mul_comm]
theorem iW0 (k:Nat):∀(l:List Nat),(∀x∈l,x<k)->l∈allL k l.length
 | [],_=>by simp [allL]
 |x::l,h=>by
  show x::l∈(List.range k).flatMap λd=>(allL k l.length).map (d:: ·)
  exact Ap9.mpr ⟨x,Ag5.mpr (h x (.head _)),Ac0.mpr ⟨l,iW0 k l λy hy=>h y (.tail _ hy),rfl⟩⟩
def digB (d:Nat)(b:Int × List Nat):List Nat:=b.1.toNat::(b.2.map (· +1)++List.replicate (d - b.2.length) 0)
def digS (d:Nat)(s:Stt):List Nat:=s.flatMap (digB d)
theorem og0 {b c:Int × List Nat}(hb:0<=b.1)(hc:0<=c.1)(h:digB d b=digB d c):b=c:=by
 unfold digB at h
 obtain⟨h1,h2⟩:=List.cons.inj h
 have e:∀l:List Nat,((l.map (· +1)++List.replicate (d - l.length) 0).filter (· !=0)).map (· - 1)=l:=λl=>by
  rw [As4,List.filter_replicate]
  simp only [bne_self_eq_false,Ad6,Ah2,Ag7]
  rw [List.filter_eq_self.mpr (λx hx=>by obtain⟨y,_,rfl⟩:=Ac0.mp hx; simp),Ad2]
  simp [Function.comp_def]
 have e2:b.2=c.2:=by rw [<- e b.2,<- e c.2,h2]
 have e1:b.1=c.1:=by omega
 exact Prod.ext e1 e2
theorem gu0 {b:Int × List Nat}(h:b.2.length<=d):(digB d b).length=d+1:=by
 unfold digB
 rw [Ac4,Aa5,Aa1,Af3]
 omega
theorem jy0:∀{s t:Stt},s.length=t.length->(∀b∈s,0<=b.1/\b.2.length<=d)->(∀b∈t,0<=b.1/\b.2.length<=d)->digS d s=digS d t->s=t
 | [],[],_,_,_,_=>rfl
 | [],_::_,h,_,_,_=>by simp at h
 |_::_,[],h,_,_,_=>by simp at h
 |b::s,c::t,h,hs,ht,e=>by
  unfold digS at e
  rw [Ao8,Ao8] at e
  have hb:=hs b (.head _)
  have hc:=ht c (.head _)
  obtain⟨e1,e2⟩:=List.append_inj e (by rw [gu0 hb.2,gu0 hc.2])
  rw [og0 hb.1 hc.1 e1,jy0 (by simpa using h) (λx hx=>hs x (.tail _ hx)) (λx hx=>ht x (.tail _ hx)) e2]
theorem jQ0:∀{s:Stt},(∀b∈s,b.2.length<=d)->(digS d s).length=(d+1)*s.length
 | [],_=>by simp [digS]
 |b::s,h=>by
  have ih:=jQ0 (d:=d) (s:=s) λx hx=>h x (.tail _ hx)
  unfold digS at ih ⊢
  rw [Ao8,Aa5,gu0 (h b (.head _)),ih,Ac4,Nat.mul_succ,Nat.add_comm]
theorem rf0 {d k:Nat}{s:Stt}(h:∀b∈s,b.1<k/\∀c∈b.2,c+1<k)(hk:0<k):∀x∈digS d s,x<k:=λx hx=>by
 obtain⟨b,hb,hx⟩:=Ap9.mp hx
 obtain⟨h1,h2⟩:=h b hb
 unfold digB at hx
 rcases Ab2.mp hx with e|hx
 ·omega
 rcases Ad8.mp hx with hx|hx
 ·obtain⟨c,hc,rfl⟩:=Ac0.mp hx
  exact h2 c hc
 ·rw [(List.mem_replicate.mp hx).2]; exact hk
theorem lI0:∀(m:Int) (xs:List Int) (b:Int),(∀x∈m::xs,x<=b)->maxI m xs<=b
 |m,[],b,h=>h m (.head _)
 |m,x::xs,b,h=>by
  unfold maxI
  refine lI0 _ xs b λy hy=> ?_
  rcases Ab2.mp hy with rfl|hy
  ·split
   ·exact h x (.tail _ (.head _))
   ·exact h m (.head _)
  ·exact h y (.tail _ (.tail _ hy))
theorem gb0 {p:Plot}(h1:1<=k)(h:∀c∈p.crops,c.gap<=k):depth p<=k:=by
 unfold depth
 split
 ·exact h1
 ·rename_i g gs e
  have:maxI g gs<=k:=lI0 g gs k λx hx=>by
   rw [<- e] at hx
   obtain⟨c,hc,rfl⟩:=Ac0.mp hx
   exact h c hc
  split<;>omega
theorem bz0 {p:Plot}(hp:Tight p){l:List Stt}(nd:l.Nodup)(h:∀s∈l,Reach p s):l.length<=1300:=by
 have hb:=hp.beds
 have ht:=hp.top
 have hf:=hp.few
 have d1:=eU0 p
 have fin:∀(d k:Nat),0<k->(depth p).toNat<=d->p.top<k->p.crops.length+1<=k->k^((d+1)*p.soils.length)<=1300->l.length<=1300:=λd k k0 hd hk hc hx=>by
  have ran:∀s∈l,Ran p s:=λs hs=>(h s hs).ran hp.toBound
  have nd':(l.map (digS d)).Nodup:=by
   refine List.Pairwise.map _ (λs t hst=>hst) (List.Pairwise.imp_of_mem (λ{s t} hs ht hne e=>hne ?_) nd)
   have r1:=ran s hs
   have r2:=ran t ht
   exact jy0 (by rw [r1.len,r2.len]) (λb hb=>⟨(r1.soil b hb).1,Ac6 (r1.stood b hb).1 hd⟩) (λb hb=>⟨(r2.soil b hb).1,Ac6 (r2.stood b hb).1 hd⟩) e
  have:=fu0 (m:=allL k ((d+1)*p.soils.length)) nd' λx hx=>by
   obtain⟨s,hs,rfl⟩:=Ac0.mp hx
   have r1:=ran s hs
   have e:=jQ0 (d:=d) (s:=s) λb hb=>Ac6 (r1.stood b hb).1 hd
   rw [<- r1.len,<- e]
   exact iW0 k _ (rf0 (λb hb=>⟨by have:=(r1.soil b hb).2; omega,λc hc=>by have:=(r1.stood b hb).2 c hc; omega⟩) k0)
  rw [Aa1,iy0] at this
  omega
 by_cases h1:1<p.soils.length
 ·obtain⟨a,b,c⟩:=hp.many h1
  have dd:=gb0 (k:=1) (by decide) c
  refine fin 1 3 (by decide) (by omega) (by omega) (by omega) ?_
  have:p.soils.length=2\/ p.soils.length=3:=by omega
  rcases this with e|e<;>rw [e]<;>decide
 ·have dd:=gb0 (p:=p) (k:=3) (by decide) λc hc=>(hp.gap c hc).2
  refine fin 3 6 (by decide) (by omega) (by omega) (by omega) ?_
  rw [show p.soils.length=1 by omega]
  decide
open PySem PySem.Spec PyProof.Rows L2 L2.BD
def keyS (s:Stt):SK:=s.map λb=>(b.1,b.2.map Int.ofNat)
theorem dQ0:∀{s t:Stt},keyS s=keyS t->s=t
 | [],[],_=>rfl
 | [],_::_,h=>by simp [keyS] at h
 |_::_,[],h=>by simp [keyS] at h
 | (a,l)::s,(b,m)::t,h=>by
  unfold keyS at h
  rw [Ac2,Ac2] at h
  obtain⟨h1,h2⟩:=List.cons.inj h
  have e1:a=b:=congrArg (·.1) h1
  have e2:l.map Int.ofNat=m.map Int.ofNat:=congrArg (·.2) h1
  have e3:l=m:=List.map_inj_right (λ_ _ e=>Int.ofNat.inj e)|>.mp e2
  rw [e1,e3,dQ0 (s:=s) (t:=t) h2]
theorem jw0 {F:Addr->Prop}:∀{xs:List V} {l:List Nat},Rps F H xs (l.map intT)->xs=(l.map Int.ofNat).map V.int
 |_,[],r=>by cases r; rfl
 |_,x::l,r=>by
  rw [Ac2] at r
  cases r with
  |cons h r=>
   cases h
   rw [jw0 r]
   rfl
theorem lt0 {F:Addr->Prop}:∀{xs:List V} {s:Stt},Rps F H xs (s.map bedT)->Paired (BedAt H) (keyS s) xs
 |_,[],r=>by cases r; exact .nil
 |_,b::s,r=>by
  rw [Ac2] at r
  cases r with
  |cons h r=>
   refine .cons ?_ (lt0 r)
   cases h with
   |tup hc rc=>
    obtain⟨x,y,rfl,rx,ry⟩:=rc.two
    cases rx
    cases ry with
    |tup hd rd=>exact⟨_,_,rfl,hc,by rw [jw0 rd] at hd; exact hd⟩
theorem gM0 {F:Addr->Prop}(h:Rp F H v (as0 s)):∃b,v=.ref b/\KeyAt H b (keyS s):=by
 cases h with
 |tup ha r=>exact⟨_,rfl,_,ha,lt0 r⟩
structure WebM where
 sts:List Stt
 came:List (Option (Nat × List Nat))
 mov:List (Nat × List (List Nat × Nat))
def nS0:Option (Nat × List Nat)->T
 |none=> .non
 |some (n,r)=> .tup [intT n,rowT r]
def kP0 (m:List Nat × Nat):T:=.tup [rowT m.1,intT m.2]
def eM0 (ms:List (List Nat × Nat)):T:=.lst (ms.map kP0)
structure WAd where
 dx:Addr
 sa:Addr
 na:Addr
 ca:Addr
 ma:Addr
 g:V
abbrev WAd.L (A:WAd):List Addr:=[A.sa,A.na,A.ca,A.ma]
def ez0 (l:List Stt)(k:Nat):List (SK × V):=(l.zipIdx k).map λx=>(keyS x.1,V.int x.2)
structure WebAt (C CW:Addr)(p:Plot)(F:Addr->Prop)(H:Hp)(w:Addr)(A:WAd)(W:WebM):Prop where
 ins:H w=some (.ins CW A.dx [("garden",A.g),("states",.ref A.sa),("numbers",.ref A.na),("came",.ref A.ca),("moves",.ref A.ma)])
 gar:Rp F H A.g (garT C p)
 sts:∃xs,H A.sa=some (.lst xs)/\Rps F H xs (W.sts.map as0)
 num:H A.na=some (.dT (ez0 W.sts 0))
 came:∃xs,H A.ca=some (.lst xs)/\Rps F H xs (W.came.map nS0)
 mov:∃kvs,H A.ma=some (.dK kvs)/\Paired (λ(x:Key × V) (y:Nat × List (List Nat × Nat))=>x.1=.inl (y.1:Int)/\Rp F H x.2 (eM0 y.2)) kvs W.mov
 free:∀a∈ [w,A.sa,A.na,A.ca,A.ma],¬F a
 ne:A.sa≠A.ca
section
variable {C CW:Addr}{p:Plot}{F F':Addr->Prop}{H H':Hp}{w:Addr}{A:WAd}{W:WebM}{L:List Addr}
theorem WebAt.there (h:WebAt C CW p F H w A W):∀a∈ [w,A.sa,A.na,A.ca,A.ma],∃o,H a=some o/\∀xs,o≠ .tup xs:=λa ha=>by
 obtain⟨xs,h1,_⟩:=h.sts
 obtain⟨ys,h2,_⟩:=h.came
 obtain⟨zs,h3,_⟩:=h.mov
 simp only [Ab2,Ad0,Ah8] at ha
 rcases ha with rfl|rfl|rfl|rfl|rfl
 ·exact⟨_,h.ins,λ_ z=>nomatch z⟩
 ·exact⟨_,h1,λ_ z=>nomatch z⟩
 ·exact⟨_,h.num,λ_ z=>nomatch z⟩
 ·exact⟨_,h2,λ_ z=>nomatch z⟩
 ·exact⟨_,h3,λ_ z=>nomatch z⟩
theorem WebAt.loose (h:WebAt C CW p F H w A W):dF0 A.L F H:=λa ha=>by
 obtain⟨o,e,n⟩:=h.there a (.tail _ ha)
 exact⟨h.free a (.tail _ ha),λxs z=>by rw [e] at z; exact n xs (Option.some.inj z)⟩
theorem WebAt.keep (h:WebAt C CW p F H w A W)(c:Chg L F H F' H')(l:dF0 L F H)(d:∀a∈ [w,A.sa,A.na,A.ca,A.ma],a∉L):WebAt C CW p F' H' w A W:=by
 have k:=c.keep l
 obtain⟨xs,h1,r1⟩:=h.sts
 obtain⟨ys,h2,r2⟩:=h.came
 obtain⟨zs,h3,r3⟩:=h.mov
 refine⟨c.ext _ _ (d _ (by simp)) h.ins,h.gar.keep k,⟨xs,c.ext _ _ (d _ (by simp)) h1,r1.keep k⟩,c.ext _ _ (d _ (by simp)) h.num,⟨ys,c.ext _ _ (d _ (by simp)) h2,r2.keep k⟩,⟨zs,c.ext _ _ (d _ (by simp)) h3,Paired.map2 (λ_ _ x=>⟨x.1,x.2.keep k⟩) r3⟩,λa ha=> ?_,h.ne⟩
 obtain⟨o,e,_⟩:=h.there a ha
 exact c.free (h.free a ha) (by rw [e]; exact nofun)
theorem WebAt.mono (h:WebAt C CW p F H w A W)(m:Mono F H F' H'):WebAt C CW p F' H' w A W:=h.keep (L:=[]) m.chg (λ_ z=>nomatch z) λ_ _ z=>nomatch z
end
theorem fZ0 (s:Stt):∀(l:List Stt) (k:Nat),valV (ez0 l k) (keyS s)=if s∈l then some (V.int ((k+l.idxOf s:Nat):Int)) else none
 | [],k=>rfl
 |t::l,k=>by
  have ih:=fZ0 s l (k+1)
  unfold ez0 at ih ⊢
  rw [Au0,Ac2]
  by_cases e:t=s
  ·rw [bg0 (p:=(keyS t,V.int k)) (by rw [e]),if_pos (by rw [e]; exact .head _),e,List.idxOf_cons_self]
   rfl
  ·rw [bc0 (p:=(keyS t,V.int k)) (λz=>e (dQ0 z)),ih,List.idxOf_cons,show (t==s)=false from beq_eq_false_iff_ne.mpr e,cond_false]
   by_cases m:s∈l
   ·rw [if_pos m,if_pos (.tail _ m)]
    congr 2
    omega
   ·rw [if_neg m,if_neg (λz=>by rcases Ab2.mp z with z|z; exact e z.symm; exact m z)]
theorem lK0 (l:List Stt)(s:Stt):ez0 (l++ [s]) 0=ez0 l 0++ [(keyS s,V.int (l.length:Int))]:=by
 unfold ez0
 rw [List.zipIdx_append,Ac3]
 simp
theorem nq0 (l:List Stt)(k:Nat):(ez0 l k).length=l.length:=by unfold ez0; rw [Aa1,List.length_zipIdx]
theorem lN0 {F:Addr->Prop}(n:Nat)(r:Paired (λ(x:Key × V) (y:Nat × List (List Nat × Nat))=>x.1=.inl (y.1:Int)/\Rp F H x.2 (eM0 y.2)) kvs mv):
  (mv.lookup n=none->valV kvs (Sum.inl (n:Int))=none)/\∀ms,mv.lookup n=some ms->∃v,valV kvs (Sum.inl (n:Int))=some v/\Rp F H v (eM0 ms):=by
 induction r with
 |nil=>exact⟨λ_=>rfl,λ_ h=>nomatch h⟩
 | @cons x y xs ys h _ ih=>
  obtain⟨x1,x2⟩:=x
  obtain⟨y1,y2⟩:=y
  obtain⟨h1,h2⟩:=h
  have h1:x1=Sum.inl (y1:Int):=h1
  subst h1
  rw [Ac5]
  by_cases e:n=y1
  ·subst e
   rw [bg0 (p:=(Sum.inl (n:Int),x2)) rfl]
   simp only [Ah7]
   exact⟨nofun,λms z=>by cases z; exact⟨_,rfl,h2⟩⟩
  ·rw [bc0 (p:=(Sum.inl (y1:Int),x2)) (λz=>e (by have:=Sum.inl.inj z; omega))]
   rw [show (n==y1)=false from beq_eq_false_iff_ne.mpr e]
   exact ih
def Moves (p:Plot)(l:List Stt)(s:Stt)(ms:List (List Nat × Nat)):Prop:=ms.map (·.1)=mayM p s/\∀m∈ms,l[m.2]?=some (an0 p s m.1)
structure WOk (p:Plot)(W:WebM):Prop where
 nd:W.sts.Nodup
 re:∀s∈W.sts,Reach p s
 st:W.sts[0]?=some (aE0 p)
 cl:W.came.length=W.sts.length
 cm:∀(i:Nat) c,W.came[i]?=some c->(c=none/\i=0)\/ ∃j r s,c=some (j,r)/\j<i/\W.sts[j]?=some s/\r∈mayM p s/\W.sts[i]?=some (an0 p s r)
 mn:(W.mov.map (·.1)).Nodup
 mv:∀x∈W.mov,∃s,W.sts[x.1]?=some s/\Moves p W.sts s x.2
def WebM.num (W:WebM)(s:Stt)(c:Option (Nat × List Nat)):WebM:=if s∈W.sts then W else{W with sts:=W.sts++ [s],came:=W.came++ [c]}
theorem aS0 {α:Type}{l m:List α}(h:l<+:m){i:Nat}{x:α}(e:l[i]?=some x):m[i]?=some x:=by
 obtain⟨t,rfl⟩:=h
 have:=(Aa9.mp e).1
 rw [Ab3 this]
 exact e
theorem Moves.pre (h:Moves p l s ms)(q:l<+:m):Moves p m s ms:=⟨h.1,λx hx=>aS0 q (h.2 x hx)⟩
theorem pH0 (W:WebM)(s:Stt)(c:Option (Nat × List Nat)):W.sts<+:(W.num s c).sts/\s∈(W.num s c).sts/\(W.num s c).mov=W.mov:=by
 unfold WebM.num
 split
 ·exact⟨Aq0 _,by assumption,rfl⟩
 ·exact⟨Aj0 _ _,Ac1 _ (.head _),rfl⟩
theorem WOk.num (h:WOk p W)(hs:W.sts[n]?=some s)(hr:r∈mayM p s):WOk p (W.num (an0 p s r) (some (n,r))):=by
 unfold WebM.num
 split
 ·exact h
 ·rename_i nm
  have hl:=(Aa9.mp hs).1
  refine⟨?_,λt ht=> ?_,?_,by rw [Aa5,Aa5,h.cl]; rfl,λi c e=> ?_,h.mn,λx hx=> ?_⟩
  ·refine Al4.mpr ⟨h.nd,Ae8.mpr ⟨nofun,Ag6⟩,λa ha b hb e=> ?_⟩
   rw [Aa6.mp hb] at e
   exact nm (e▸ha)
  ·rcases Ad8.mp ht with ht|ht
   ·exact h.re t ht
   ·rw [Aa6.mp ht]
    exact .step (h.re s (Ac7 hs)) hr
  ·exact aS0 (Aj0 _ _) h.st
  ·by_cases hi:i<W.came.length
   ·rw [Ab3 hi] at e
    rcases h.cm i c e with q|⟨j,r',t,q1,q2,q3,q4,q5⟩
    ·exact .inl q
    ·exact .inr ⟨j,r',t,q1,q2,aS0 (Aj0 _ _) q3,q4,aS0 (Aj0 _ _) q5⟩
   ·have:i=W.came.length:=by
     have:=(Aa9.mp e).1
     rw [Aa5,Ab5] at this
     omega
    subst this
    rw [Ab9 (Ab1 _),Aj1] at e
    cases e
    refine .inr ⟨n,r,s,rfl,by rw [h.cl]; exact hl,aS0 (Aj0 _ _) hs,hr,?_⟩
    show (W.sts++ [an0 p s r])[W.came.length]?=_
    rw [h.cl,Ab9 (Ab1 _),Aj1]
    rfl
  ·obtain⟨t,q1,q2⟩:=h.mv x hx
   exact⟨t,aS0 (Aj0 _ _) q1,q2.pre (Aj0 _ _)⟩
theorem WOk.few (hp:Tight p)(h:WOk p W):W.sts.length<=1300:=bz0 hp h.nd h.re
theorem WOk.fewM (hp:Tight p)(h:WOk p W):W.mov.length<=1300:=by
 have:=fu0 (m:=List.range W.sts.length) h.mn λx hx=>by
  obtain⟨y,hy,rfl⟩:=Ac0.mp hx
  obtain⟨s,e,_⟩:=h.mv y hy
  exact Ag5.mpr (Aa9.mp e).1
 rw [Aa1,Ag8] at this
 have:=h.few hp
 omega
theorem qK0 {l:List Stt}{s:Stt}(h:s∈l):l[l.idxOf s]?=some s:=by
 have:=An2 h
 rw [Aa4 this,Ao2 this]
def aT0 (p:Plot):Nat->Stt->Option (List (List Nat))
 |0,_=>some []
 |k+1,s=>(mayM p s).findSome? λr=>(aT0 p k (an0 p s r)).map (r:: ·)
def Can (p:Plot)(k:Nat)(s:Stt):Prop:=∃pl,aT0 p k s=some pl
theorem eA0:Can p 0 s:=⟨[],rfl⟩
theorem can_succ:Can p (k+1) s↔ ∃r∈mayM p s,Can p k (an0 p s r):=by
 unfold Can
 rw [aT0]
 constructor
 ·rintro⟨pl,h⟩
  obtain⟨r,hr,e⟩:=Am1 h
  cases q:aT0 p k (an0 p s r) with
  |none=>rw [q] at e; cases e
  |some x=>exact⟨r,hr,x,q⟩
 ·rintro⟨r,hr,x,e⟩
  have:((mayM p s).findSome? λr=>(aT0 p k (an0 p s r)).map (r:: ·)).isSome=true:=by
   rw [List.findSome?_isSome_iff]
   exact⟨r,hr,by rw [e]; rfl⟩
  exact Al9.mp this
theorem gX0:∀{k j:Nat} {s:Stt},j<=k->Can p k s->Can p j s
 |_,0,_,_,_=>eA0
 |0,j+1,_,h,_=>by omega
 |k+1,j+1,s,h,c=>by
  obtain⟨r,hr,c⟩:=can_succ.mp c
  exact can_succ.mpr ⟨r,hr,gX0 (by omega) c⟩
def Hgt (p:Plot)(s:Stt)(h:Nat):Prop:=Can p h s/\¬Can p (h+1) s
theorem Hgt.le (x:Hgt p s h)(c:Can p k s):k<=h:=Classical.byContradiction λz=>x.2 (gX0 (by omega) c)
theorem ig0 (e:mayM p s=pre++r::post)(hp:∀x∈pre,¬Can p k (an0 p s x))(h:aT0 p k (an0 p s r)=some pl):aT0 p (k+1) s=some (r::pl):=by
 rw [aT0,e,List.findSome?_append]
 have:pre.findSome? (λr=>(aT0 p k (an0 p s r)).map (r:: ·))=none:=by
  rw [List.findSome?_eq_none_iff]
  intro x hx
  cases q:aT0 p k (an0 p s x) with
  |none=>rfl
  |some y=>exact absurd ⟨y,q⟩ (hp x hx)
 rw [this,Ar8,List.findSome?_cons,h]
 rfl
structure Way (p:Plot)(l:List Stt)(ps:List Nat)(ys:List (List Nat)):Prop where
 len:ps.length=ys.length+1
 one:ps[0]?=some 0
 go:∀(j:Nat) r,ys[j]?=some r->∃m n s,ps[j]?=some m/\ps[j+1]?=some n/\l[m]?=some s/\r∈mayM p s/\l[n]?=some (an0 p s r)
theorem Way.pre (h:Way p l ps ys)(q:l<+:l'):Way p l' ps ys:=⟨h.len,h.one,λj r e=>by
 obtain⟨m,n,s,a,b,c,d,e⟩:=h.go j r e
 exact⟨m,n,s,a,b,aS0 q c,d,aS0 q e⟩⟩
theorem Way.step (h:Way p l ps ys)(hn:ps[ys.length]?=some n)(hs:l[n]?=some s)(hrm:r∈mayM p s)(hkb:l[k]?=some (an0 p s r)):Way p l (ps++ [k]) (ys++ [r]):=by
 have lp:=h.len
 refine⟨by rw [Aa5,Aa5,lp]; rfl,?_,λj r' e=> ?_⟩
 ·rw [Ab3 (by omega)]; exact h.one
 ·by_cases hj:j<ys.length
  ·rw [Ab3 hj] at e
   obtain⟨a,b,c,e1,e2,e3⟩:=h.go j r' e
   exact⟨a,b,c,by rw [Ab3 (by omega)]; exact e1,by rw [Ab3 (by omega)]; exact e2,e3⟩
  ·have:j=ys.length:=by
    have:=(Aa9.mp e).1
    rw [Aa5,Ab5] at this
    omega
   subst this
   rw [Ab9 (Ab1 _),Aj1] at e
   cases e
   refine⟨n,k,s,by rw [Ab3 (by omega)]; exact hn,?_,hs,hrm,hkb⟩
   rw [Ab9 (by omega),lp,Aj1]
   rfl
theorem Way.back (h:Way p l (ps++ [n]) (ys++ [r])):Way p l ps ys:=by
 have lp:=h.len
 rw [Aa5,Aa5,Ab5,Ab5] at lp
 refine⟨by omega,?_,λj r' e'=> ?_⟩
 ·have:=h.one
  rw [Ab3 (by omega)] at this
  exact this
 ·have hj:=(Aa9.mp e').1
  obtain⟨a,b,c,e1,e2,e3⟩:=h.go j r' (by rw [Ab3 hj]; exact e')
  rw [Ab3 (by omega)] at e1 e2
  exact⟨a,b,c,e1,e2,e3⟩
def Fst (p:Plot)(l:List Stt)(ps:List Nat)(ys:List (List Nat))(m:Nat):Prop:=∀(j:Nat) r n s,ys[j]?=some r->ps[j]?=some n->l[n]?=some s->∃pre post,mayM p s=pre++r::post/\∀x∈pre,¬Can p (m - (j+1)) (an0 p s x)
theorem mc0 (w:Way p l ps ys)(f:Fst p l ps ys m)(hm:ys.length=m)(h0:l[0]?=some (aE0 p)):aT0 p m (aE0 p)=some ys:=by
 have key:∀(k j:Nat),j+k=m->∀n s,ps[j]?=some n->l[n]?=some s->aT0 p k s=some (ys.drop j):=by
  intro k
  induction k with
  |zero=>
   intro j hj n s _ _
   rw [List.drop_of_length_le (by omega)]
   rfl
  |succ k ih=>
   intro j hj n s hn hs
   have hjl:j<ys.length:=by omega
   have hr:ys[j]?=some ys[j]:=Aa4 hjl
   obtain⟨m',n',s',a,b,c,d,e⟩:=w.go j _ hr
   rw [hn] at a
   cases a
   rw [hs] at c
   cases c
   obtain⟨pre,post,e1,e2⟩:=f j _ n s hr hn hs
   rw [Aj8 hjl]
   have e3:m - (j+1)=k:=by omega
   rw [e3] at e2
   exact ig0 e1 e2 (ih (j+1) (by omega) n' _ b e)
 exact key m 0 (by omega) 0 _ w.one h0
theorem Way.can (w:Way p l ps ys)(hj:ps[j]?=some n)(hs:l[n]?=some s):∀(d a:Nat) {m:Nat} {t:Stt},a+d=j->ps[a]?=some m->l[m]?=some t->∀k,Can p k s->Can p (k+d) t:=by
 intro d
 induction d with
 |zero=>
  intro a m t e hm ht k hk
  have e:a=j:=by omega
  subst e
  rw [hj] at hm
  cases hm
  rw [hs] at ht
  cases ht
  exact hk
 |succ d ih=>
  intro a m t e hm ht k hk
  have lj:=(Aa9.mp hj).1
  have:=w.len
  have hal:a<ys.length:=by omega
  obtain⟨m',n',s',x,y,z,u,v⟩:=w.go a _ (Aa4 hal)
  rw [hm] at x
  cases x
  rw [ht] at z
  cases z
  exact can_succ.mpr ⟨_,u,ih (a+1) (by omega) y v k hk⟩
theorem dU0 {p:Plot}{l:List Stt}{ps:List Nat}{ys:List (List Nat)}(w:Way p l ps ys){i j n:Nat}{s:Stt}(hij:i<j)(hi:ps[i]?=some n)(hj:ps[j]?=some n)(hs:l[n]?=some s)(k:Nat):Can p k s:=by
 have all:∀n,Can p (n*(j - i)) s:=by
  intro n
  induction n with
  |zero=>rw [Nat.zero_mul]; exact eA0
  |succ n ih=>
   rw [Aw5]
   exact w.can hj hs (j - i) i (by omega) hi hs _ ih
 exact gX0 (Nat.le_mul_of_pos_right k (by omega)) (all k)
structure EndsOk (p:Plot)(l:List Stt)(E:List (Nat × Nat)):Prop where
 nd:(E.map (·.1)).Nodup
 ok:∀n h,E.lookup n=some h->∃s,l[n]?=some s/\Hgt p s h
theorem EndsOk.pre (h:EndsOk p l E)(q:l<+:l'):EndsOk p l' E:=⟨h.nd,λn x e=>let ⟨s,a,b⟩:=h.ok n x e; ⟨s,aS0 q a,b⟩⟩
structure TOk (p:Plot)(l:List Stt)(E:List (Nat × Nat))(ps:List Nat)(ys:List (List Nat))(m:Nat):Prop where
 ends:EndsOk p l E
 way:Way p l ps ys
 fst:Fst p l ps ys m
 wor:∀(j:Nat) n h,ps[j]?=some n->E.lookup n=some h->m<=j+h
 few:ys.length<=m
theorem TOk.pre (h:TOk p l E ps ys m)(q:l<+:l'):TOk p l' E ps ys m:=
 ⟨h.ends.pre q,h.way.pre q,λj r n s e1 e2 e3=>by
  obtain⟨m',n',s',a,b,c,d,e⟩:=h.way.go j r e1
  rw [e2] at a
  cases a
  have:=aS0 q c
  rw [e3] at this
  cases this
  exact h.fst j r n s e1 e2 c,h.wor,h.few⟩
def dR0 (E:List (Nat × Nat))(k n m:Nat):Bool:=match E.lookup n with|none=>true|some h=>decide (m<=k+1+h)
theorem fr0 (h:EndsOk p l E)(w:dR0 E k n m=false)(hs:l[n]?=some s):∃x,E.lookup n=some x/\k+1+x<m/\¬Can p (m - (k+1)) s:=by
 unfold dR0 at w
 cases e:E.lookup n with
 |none=>rw [e] at w; cases w
 |some x=>
  rw [e] at w
  have w:¬m<=k+1+x:=of_decide_eq_false w
  obtain⟨t,a,b⟩:=h.ok n x e
  rw [hs] at a
  cases a
  exact⟨x,rfl,by omega,λc=>by have:=b.le c; omega⟩
theorem TOk.step {p:Plot}{l:List Stt}{E:List (Nat × Nat)}{ps:List Nat}{ys:List (List Nat)}{m n:Nat}{s:Stt}{pre post:List (List Nat × Nat)}{r:List Nat}{k:Nat}(h:TOk p l E ps ys m)(hn:ps[ys.length]?=some n)(hs:l[n]?=some s)(mv:Moves p l s (pre++(r,k)::post))
  (hp:∀x∈pre,dR0 E ys.length x.2 m=false) (hk:dR0 E ys.length k m=true) (hl:ys.length<m):TOk p l E (ps++ [k]) (ys++ [r]) m:=by
 have lp:=h.way.len
 have em:=mv.1
 rw [Ac3,Ac2] at em
 have hrm:r∈mayM p s:=by rw [<- em]; exact Ac1 _ (.head _)
 have hkb:l[k]?=some (an0 p s r):=mv.2 (r,k) (Ac1 _ (.head _))
 refine⟨h.ends,h.way.step hn hs hrm hkb,λj r' n' s' e1 e2 e3=> ?_,λj n' x e1 e2=> ?_,by rw [Aa5]; exact hl⟩
 ·by_cases hj:j<ys.length
  ·rw [Ab3 hj] at e1
   rw [Ab3 (by omega)] at e2
   exact h.fst j r' n' s' e1 e2 e3
  ·have:j=ys.length:=by
    have:=(Aa9.mp e1).1
    rw [Aa5,Ab5] at this
    omega
   subst this
   rw [Ab9 (Ab1 _),Aj1] at e1
   cases e1
   rw [Ab3 (by omega),hn] at e2
   cases e2
   rw [hs] at e3
   cases e3
   refine⟨pre.map (·.1),post.map (·.1),em.symm,λx hx=> ?_⟩
   obtain⟨y,hy,rfl⟩:=Ac0.mp hx
   obtain⟨_,_,_,z⟩:=fr0 h.ends (hp y hy) (mv.2 y (Ag2 _ hy))
   exact z
 ·by_cases hj:j<ps.length
  ·rw [Ab3 hj] at e1
   exact h.wor j n' x e1 e2
  ·have:j=ps.length:=by
    have:=(Aa9.mp e1).1
    rw [Aa5,Ab5] at this
    omega
   subst this
   rw [Ab9 (Ab1 _),Aj1] at e1
   cases e1
   unfold dR0 at hk
   rw [e2] at hk
   have hk:m<=ys.length+1+x:=of_decide_eq_true hk
   omega
theorem cG0 {β:Type}(n:Nat)(m:List (Nat × β)):∀l:List (Nat × β),(l++m).lookup n=(l.lookup n).or (m.lookup n)
 | []=>rfl
 | (k,v)::l=>by
  rw [An3,Ac5,Ac5,cG0 n m l]
  cases n==k<;>rfl
theorem look_none {β:Type}:∀{l:List (Nat × β)},l.lookup n=none->n∉l.map (·.1)
 | [],_,h=>nomatch h
 | (k,v)::l,e,h=>by
  rw [Ac5] at e
  cases q:n==k with
  |true=>rw [q] at e; cases e
  |false=>
   rw [q] at e
   rcases Ab2.mp h with z|z
   ·have z:n=k:=z
    simp [z] at q
   ·exact look_none e z
theorem dJ0 {β:Type}{n k:Nat}{v x:β}{l:List (Nat × β)}(h:(l++ [(k,v)]).lookup n=some x):l.lookup n=some x\/ (n=k/\x=v):=by
 rw [cG0] at h
 cases q:l.lookup n with
 |some y=>rw [q] at h; exact .inl h
 |none=>
  rw [q,Ar8,Ac5] at h
  cases e:n==k with
  |true=>rw [e] at h; cases h; exact .inr ⟨by simpa using e,rfl⟩
  |false=>rw [e] at h; cases h
structure EndIs (E:List (Nat × Nat))(ms:List (List Nat × Nat))(h:Nat):Prop where
 le:∀x∈ms,∀k,E.lookup x.2=some k->k+1<=h
 at_:(ms=[]/\h=0)\/ ∃x∈ms,∃k,E.lookup x.2=some k/\h=k+1
theorem mL0 (ok:EndsOk p l E)(mv:Moves p l s ms)(hall:∀x∈ms,∃k,E.lookup x.2=some k)(e:EndIs E ms h):Hgt p s h:=by
 have hg:∀x∈ms,∀k,E.lookup x.2=some k->Hgt p (an0 p s x.1) k:=λx hx k hk=>by
  obtain⟨t,a,b⟩:=ok.ok _ _ hk
  rw [mv.2 x hx] at a
  cases a
  exact b
 constructor
 ·rcases e.at_ with⟨_,rfl⟩|⟨x,hx,k,hk,rfl⟩
  ·exact eA0
  ·refine can_succ.mpr ⟨x.1,?_,(hg x hx k hk).1⟩
   rw [<- mv.1]
   exact Ac0.mpr ⟨x,hx,rfl⟩
 ·intro c
  obtain⟨r,hr,c⟩:=can_succ.mp c
  rw [<- mv.1] at hr
  obtain⟨x,hx,rfl⟩:=Ac0.mp hr
  obtain⟨k,hk⟩:=hall x hx
  have:=(hg x hx k hk).le c
  have:=e.le x hx k hk
  omega
theorem EndsOk.snoc {p:Plot}{l:List Stt}{E:List (Nat × Nat)}{n h:Nat}{s:Stt}(t:EndsOk p l E)(nE:E.lookup n=none)(hs:l[n]?=some s)(hg:Hgt p s h):EndsOk p l (E++ [(n,h)]):=by
 refine⟨?_,λn' x hx=> ?_⟩
 ·rw [Ac3]
  refine Al4.mpr ⟨t.nd,Ae8.mpr ⟨nofun,Ag6⟩,λa ha b hb z=> ?_⟩
  rw [Aa6.mp hb] at z
  have z:a=n:=z
  exact look_none nE (z▸ha)
 ·rcases dJ0 hx with z|⟨rfl,rfl⟩
  ·exact t.ok n' x z
  ·exact⟨s,hs,hg⟩
theorem TOk.back {p:Plot}{l:List Stt}{E:List (Nat × Nat)}{ps:List Nat}{ys:List (List Nat)}{m n h:Nat}{s:Stt}{ms:List (List Nat × Nat)}(t:TOk p l E (ps++ [n]) ys m)(h0:l[0]?=some (aE0 p))(hs:l[n]?=some s)(mv:Moves p l s ms)(hall:∀x∈ms,dR0 E ys.length x.2 m=false)(hl:ys.length<m)(e:EndIs E ms h):
  E.lookup n=none/\EndsOk p l (E++ [(n,h)])/\((ps=[]/\ys=[]/\¬Can p m (aE0 p))\/ ∃ys' r,ys=ys'++ [r]/\TOk p l (E++ [(n,h)]) ps ys' m):=by
 have lp:=t.way.len
 rw [Aa5,Ab5] at lp
 have lp:ps.length=ys.length:=by omega
 have hn:(ps++ [n])[ys.length]?=some n:=by rw [Ab9 (by omega),lp,Aj1]; rfl
 have inE:∀x∈ms,∃k,E.lookup x.2=some k/\ys.length+1+k<m:=λx hx=>by
  obtain⟨k,a,b,_⟩:=fr0 t.ends (hall x hx) (mv.2 x hx)
  exact⟨k,a,b⟩
 have hg:=mL0 t.ends mv (λx hx=>let ⟨k,a,_⟩:=inE x hx; ⟨k,a⟩) e
 have hm:ys.length+h<m:=by
  rcases e.at_ with⟨_,rfl⟩|⟨x,hx,k,hk,rfl⟩
  ·omega
  ·obtain⟨k',a,b⟩:=inE x hx
   rw [hk] at a
   cases a
   omega
 have nE:E.lookup n=none:=by
  cases q:E.lookup n with
  |none=>rfl
  |some x=>
   exfalso
   have w:=t.wor _ n x hn q
   obtain⟨s',a,b⟩:=t.ends.ok n x q
   rw [hs] at a
   cases a
   have:=b.le hg.1
   have:=hg.le b.1
   omega
 have ok2:=t.ends.snoc nE hs hg
 refine⟨nE,ok2,?_⟩
 by_cases hy:ys=[]
 ·subst hy
  have:ps=[]:=Ae2 lp
  subst this
  refine .inl ⟨rfl,rfl,λc=> ?_⟩
  have o:=t.way.one
  have o:some n=some 0:=o
  cases o
  rw [h0] at hs
  cases hs
  have:=hg.le c
  have hm:0+h<m:=hm
  omega
 ·obtain⟨ys',r,rfl⟩:∃ys' r,ys=ys'++ [r]:=⟨_,_,(Af0 hy).symm⟩
  rw [Aa5,Ab5] at lp hn hm hl
  refine .inr ⟨ys',r,rfl,ok2,t.way.back,λj r' n' s' e1 e2 e3=> ?_,λj n' x e1 e2=> ?_,by omega⟩
  ·have hj:=(Aa9.mp e1).1
   exact t.fst j r' n' s' (by rw [Ab3 hj]; exact e1) (by rw [Ab3 (by omega)]; exact e2) e3
  ·have hj:=(Aa9.mp e1).1
   have e1':(ps++ [n])[j]?=some n':=by rw [Ab3 hj]; exact e1
   rcases dJ0 e2 with z|⟨rfl,rfl⟩
   ·exact t.wor j n' x e1' z
   ·exact absurd (dU0 t.way (i:=j) (j:=ys'.length+1) (by omega) e1' hn hs _) hg.2
theorem lW0 (h:EndsOk p l E)(w:∀x,E.lookup 0=some x->m<=x):TOk p l E [0] [] m:=
 ⟨h,⟨rfl,rfl,λ_ _ e=>nomatch e⟩,(λ_ _ _ _ e=>nomatch e),(λj n x e1 e2=>by
  cases j with
  |zero=>cases e1; have:=w x e2; omega
  |succ j=>cases e1),Ae5 _⟩
section
variable (C CW:Addr)(p:Plot)
def nw0:Sp:=λvs H Q _=>∃F w A W s c sv cv,vs=[.ref w,sv,cv]/\Trk F H/\WebAt C CW p F H w A W/\Rp F H sv (as0 s)/\Rp F H cv (nS0 c)/\W.sts.length<100000/\W.came.length<100000/\
 ∀H',Chg A.L F H F H'->WebAt C CW p F H' w A (W.num s c)->Q (.int ((W.num s c).sts.idxOf s:Nat)) H'
def mz0:Sp:=λvs H Q _=>∃F w A W n s,vs=[.ref w,.int (n:Nat)]/\Trk F H/\WebAt C CW p F H w A W/\WOk p W/\W.sts[n]?=some s/\
 ∀F' H' W' ms a xs,Chg A.L F H F' H'->WebAt C CW p F' H' w A W'->WOk p W'->W.sts<+:W'.sts->W'.mov=W.mov->Moves p W'.sts s ms->H a=none->¬F' a->H' a=some (.lst xs)->Rps F' H' xs (ms.map kP0)->Q (.ref a) H'
def nC0:Sp:=λvs H Q _=>∃F w A W n s,vs=[.ref w,.int (n:Nat)]/\Trk F H/\WebAt C CW p F H w A W/\WOk p W/\W.sts[n]?=some s/\
 (∀ms v,W.mov.lookup n=some ms->Rp F H v (eM0 ms)->Q v H)/\
 (W.mov.lookup n=none->∀F' H' W' ms v,Chg A.L F H F' H'->WebAt C CW p F' H' w A W'->WOk p W'->W.sts<+:W'.sts->W'.mov=W.mov++ [(n,ms)]->Rp F' H' v (eM0 ms)->Q v H')
def pz0:Sp:=λvs H Q _=>∃F w dx gv,vs=[.ref w,gv]/\Trk F H/\H w=some (.ins CW dx [])/\¬F w/\Rp F H gv (garT C p)/\
 ∀F' H' A W,Chg [w] F H F' H'->(∀a∈A.L,H a=none)->WebAt C CW p F' H' w A W->WOk p W->W.mov=[]->Q .non H'
end
theorem WebAt.add {F:Addr->Prop}{H:Hp}(hW:WebAt C CW p F H w A W)(tk:Trk F H)(hm:s∉W.sts)(rs:Rp F H sv (as0 s))(rc:Rp F H cv (nS0 c))
  (hs:H A.sa=some (.lst xs)) (rxs:Rps F H xs (W.sts.map as0)) (hc:H A.ca=some (.lst ys)) (rys:Rps F H ys (W.came.map nS0)):
  Chg A.L F H F (upd (upd (upd H A.na (.dT (ez0 (W.sts++ [s]) 0))) A.sa (.lst (xs++ [sv]))) A.ca (.lst (ys++ [cv])))/\
  WebAt C CW p F (upd (upd (upd H A.na (.dT (ez0 (W.sts++ [s]) 0))) A.sa (.lst (xs++ [sv]))) A.ca (.lst (ys++ [cv]))) w A {W with sts:=W.sts++ [s],came:=W.came++ [c]}:=by
 obtain⟨kvs,hk,rk⟩:=hW.mov
 have n1:w≠A.na:=bp0 hW.ins hW.num nofun
 have n2:A.na≠A.sa:=bp0 hW.num hs nofun
 have n3:A.na≠A.ca:=bp0 hW.num hc nofun
 have n4:w≠A.sa:=bp0 hW.ins hs nofun
 have n5:w≠A.ca:=bp0 hW.ins hc nofun
 have n6:A.ma≠A.na:=bp0 hk hW.num nofun
 have n7:A.ma≠A.sa:=bp0 hk hs nofun
 have n8:A.ma≠A.ca:=bp0 hk hc nofun
 have z1:Chg A.L F H F (upd H A.na (.dT (ez0 (W.sts++ [s]) 0))):=.write tk (by simp) (by rw [hW.num]; exact nofun)
 have z2:=z1.trans (.write (a:=A.sa) (o:=.lst (xs++ [sv])) z1.trk (by simp) (z1.there _ (by rw [hs]; exact nofun)))
 have z3:=z2.trans (.write (a:=A.ca) (o:=.lst (ys++ [cv])) z2.trk (by simp) (z2.there _ (by rw [hc]; exact nofun)))
 have k:=z3.keep hW.loose
 refine⟨z3,?_,hW.gar.keep k,⟨xs++ [sv],?_,?_⟩,?_,⟨ys++ [cv],ag0,?_⟩,⟨kvs,?_,Paired.map2 (λ_ _ x=>⟨x.1,x.2.keep k⟩) rk⟩,hW.free,hW.ne⟩
 ·rw [aj0 n5,aj0 n4,aj0 n1]; exact hW.ins
 ·rw [aj0 hW.ne]; exact ag0
 ·rw [Ac3]; exact(rxs.keep k).append (.cons (rs.keep k) .nil)
 ·rw [aj0 n3,aj0 n2]; exact ag0
 ·rw [Ac3]; exact(rys.keep k).append (.cons (rc.keep k) .nil)
 ·rw [aj0 n8,aj0 n7,aj0 n6]; exact hk
def SpOk (P:Program)(w:World)(K:Aa3)(mg:Str->Option Value)(base:Heap)(C:Addr)(k:Nat)(x:Str)(ps:List Str)(sp:Sp):Prop:=∃f fd,FnOk P w K mg base CX0 k f fd ps sp/\Meth K C x f/\Binds K fd ps []
section
variable {P:Program}{w:World}{K:Aa3}{mg:Str->Option Value}{base:Heap}{C CWeb f:Addr}{fd:FuncData}{p:Plot}
theorem Yr0 (Fn:Fun K "number_of" "Web.number_of" Je0 f fd) (T:Txt K mg C CWeb):FnOk P w K mg base CX0 1 f fd V5 (nw0 C CWeb p):=by
 have sc:=jm0
 refine Fn.ok sc (λvs H Q E h=> ?_) λcdv Ar outer s H vs Q E hr h=> ?_
 ·obtain⟨F,w,A,W,s,c,sv,cv,rfl,_⟩:=h; rfl
 obtain⟨F,w,A,W,st,c,sv,cv,rfl,tk,hW,rs,rc,l1,l2,q⟩:=h
 refine⟨_,am0 (cM0 (dL0 (cS0 (ce0 hr) (pv 1) (aR0 (pv 0) rfl)) rfl)
   (am0 (cP0 (ce0 hr) (aR0 (pv 0) rfl) (pv 1) (bV0 bX0 (by rfl) T.x0 Al6 (ao0 (aR0 (pv 0) rfl) ax0)) rfl)
    (am0 (bB0 (fw0 Ae0 Ai2 Ai3 cl0 (aR0 (pv 0) rfl) (ao0 (pv 1) ax0)))
     (aw0 (bB0 (fw0 Ae0 Ai2 Ai3 cl0 (aR0 (pv 0) rfl) (ao0 (pv 2) ax0))))))
   bq0) (aw0 (aW0 (cF0 (ce0 hr) (aR0 (pv 0) rfl) (pv 1) (λ_ _=>rfl)))),?_⟩
 obtain⟨b,rfl,kb⟩:=gM0 rs
 have hv:=fZ0 st W.sts 0
 refine⟨_,rfl,r_fld rfl hW.ins T.cl_Web T.K6 rfl ⟨A.na,_,rfl,DGet.t hW.num kb,_,rfl,?_⟩⟩
 unfold WebM.num at q
 by_cases hm:st∈W.sts
 ·rw [hv,if_pos hm]
  rw [if_pos hm] at q
  refine iteF ?_
  refine⟨_,rfl,_,_,_,_,_,rfl,hW.ins,T.cl_Web,T.K6,rfl,⟨_,rfl,A.na,_,rfl,?_,q H (Mono.refl tk).chg hW⟩⟩
  have:=DGet.t (k:=keyS st) hW.num kb
  rw [hv,if_pos hm,Af9] at this
  exact this
 ·rw [hv,if_neg hm]
  rw [if_neg hm] at q
  refine iteT ?_
  obtain⟨xs,hs,rxs⟩:=hW.sts
  obtain⟨ys,hc,rys⟩:=hW.came
  have lx:xs.length=W.sts.length:=by rw [rxs.length,Aa1]
  have ly:ys.length=W.came.length:=by rw [rys.length,Aa1]
  refine⟨_,rfl,_,_,_,_,_,rfl,hW.ins,T.cl_Web,T.W9,rfl,⟨_,xs,rfl,.inl (SqL.of hs),?_⟩⟩
  refine⟨_,rfl,_,_,_,_,_,rfl,hW.ins,T.cl_Web,T.K6,rfl,⟨_,rfl,A.na,_,rfl,DPut.t hW.num kb (by rw [nq0,Ae1]; omega),?_⟩⟩
  have hvn:valV (ez0 W.sts 0) (keyS st)=none:=by rw [hv,if_neg hm]
  rw [dW0 _ hvn,lx,<- lK0]
  have n1:w≠A.na:=bp0 hW.ins hW.num nofun
  have n2:A.sa≠A.na:=bp0 hs hW.num nofun
  have n3:A.ca≠A.na:=bp0 hc hW.num nofun
  have n4:w≠A.sa:=bp0 hW.ins hs nofun
  have n5:w≠A.ca:=bp0 hW.ins hc nofun
  refine⟨_,rfl,_,_,_,_,_,rfl,(aj0 n1).trans hW.ins,T.cl_Web,T.W9,rfl,⟨.inl ⟨rfl,xs,SqL.of ((aj0 n2).trans hs)⟩,_,rfl,A.sa,xs,_,rfl,rfl,(aj0 n2).trans hs,by rw [Ae1]; omega,?_⟩⟩
  refine⟨_,rfl,_,_,_,_,_,rfl,(aj0 n4).trans ((aj0 n1).trans hW.ins),T.cl_Web,T.yj0,rfl,⟨.inl ⟨rfl,ys,SqL.of ((aj0 (Ne.symm hW.ne)).trans ((aj0 n3).trans hc))⟩,_,rfl,A.ca,ys,_,rfl,rfl,(aj0 (Ne.symm hW.ne)).trans ((aj0 n3).trans hc),by rw [Ae1]; omega,?_⟩⟩
  obtain⟨z,hW'⟩:=hW.add tk hm rs rc hs rxs hc rys
  refine⟨_,rfl,_,_,_,_,_,rfl,hW'.ins,T.cl_Web,T.K6,rfl,⟨_,rfl,A.na,_,rfl,?_,q _ z hW'⟩⟩
  have:=DGet.t (k:=keyS st) hW'.num (kb.keeps λb xs e=>(z.keep hW.loose).tup b xs e)
  rw [fZ0,if_pos (Ac1 _ (.head _)),Af9] at this
  exact this
theorem mv0:2<=sizeLine:=by rw [Ae1]; decide
theorem fb0 (hp:Tight p)(h:Reach p s):(mayM p s).length<=125:=by
 have r:=h.ran hp.toBound
 have l:=r.len
 have f:=r.few
 have h1:=(dO0 p hp.few s.length s rfl).1
 have h2:=cV0 (n:=s.length) (by omega)
 have h3:(mayM p s).length<=(cJ0 p s).length:=Av7 _ _
 omega
theorem WOk.room (hp:Tight p)(h:WOk p W):W.sts.length<100000/\W.came.length<100000:=by
 have:=h.few hp
 have:=h.cl
 omega
theorem Reach.small (hp:Tight p)(h:Reach p s):s.length<=3/\∀b∈s,b.2.length<=1000/\∀c∈b.2,c<p.crops.length:=by
 have r:=h.ran hp.toBound
 have dd:=gb0 (p:=p) (k:=3) (by decide) λc hc=>(hp.gap c hc).2
 refine⟨by rw [r.len]; exact r.few,λb hb=>⟨?_,(r.stood b hb).2⟩⟩
 have:=(r.stood b hb).1
 omega
theorem Xr0 (Fn:Fun K "worked_out" "Web.worked_out" We0 f fd) (T:Txt K mg C CWeb) (hp:Tight p) (D1:ex0 P w K mg base C 3 "may" qc0 (Y7 C)) (D2:ex0 P w K mg base C 2 "beds_behind" vc0 (q8 C))
  (D3:SpOk P w K mg base CWeb 1 "number_of" V5 (nw0 C CWeb p)):FnOk P w K mg base CX0 4 f fd Y8 (mz0 C CWeb p):=by
 have sc:=wm0
 refine Fn.ok sc (λvs H Q E h=> ?_) λcdv Ar outer s H vs Q E hr h=> ?_
 ·obtain⟨F,w,A,W,n,s,rfl,_⟩:=h; rfl
 obtain⟨F,w,A,W,n,st,rfl,tk,hW,ok,hn,q⟩:=h
 obtain⟨f1,d1,F1,M1,B1⟩:=D1
 obtain⟨f2,d2,F2,M2,B2⟩:=D2
 obtain⟨f3,d3,F3,M3,B3⟩:=D3
 refine⟨_,am0 (bA0 (i:=2) sc.nd rfl (Or.inl rfl) (gy0 ix_list (aR0 (pv 0) rfl) (pv 1) (λ_ _=>rfl)))
  (am0 (bA0 (i:=3) sc.nd rfl (Or.inl rfl) (dP0 ax0))
  (am0 (fL0 PassesOwn.never rfl (dy0 (bH0 (aR0 (pv 0) rfl) T.cl_Garden M1 F1 hr.mono B1 .nil bf0 (ao0 (pv 2) ax0))) (at0 (i:=4) sc.nd rfl (Or.inl rfl))
   (am0 (bA0 (i:=5) sc.nd rfl (Or.inl rfl) (bH0 (aR0 (pv 0) rfl) T.cl_Garden M2 F2 hr.mono B2 .nil bf0 (ao0 (pv 2) (ao0 (pv 4) ax0))))
   (aw0 (bB0 (fw0 Ae0 Ai2 Ai3 cl0 (pv 3) (ao0 (fP0 (ao0 (pv 4)
    (ao0 (bH0 (pv 0) T.cl_Web M3 F3 hr.mono B3 .nil bf0 (ao0 (pv 5) (ao0 (fP0 (ao0 (pv 1) (ao0 (pv 4) ax0))) ax0))) ax0))) ax0))))))
  (aw0 (aW0 (pv 3))))),?_⟩
 have re:=ok.re st (Ac7 hn)
 obtain⟨sm1,sm2⟩:=re.small hp
 obtain⟨xs,hs,rxs⟩:=hW.sts
 obtain⟨sv,hsv,rsv⟩:=rxs.get (i:=n) (t:=as0 st) (by rw [Ab0,hn]; rfl)
 refine⟨_,rfl,_,_,_,_,_,rfl,hW.ins,T.cl_Web,T.W9,rfl,⟨_,rfl,A.sa,xs,n,sv,rfl,rfl,SqL.of hs,atI_nat hsv,?_⟩⟩
 refine⟨Ae5 _,λl hl=> ?_⟩
 have m0:Mono F H F (upd H l (.lst [])):=.laid tk hl
 have hW0:=hW.mono m0
 obtain⟨ga,gdx,gfs,eg,hg,rg⟩:=hW0.gar.ins_
 refine⟨_,rfl,_,_,_,_,_,rfl,hW0.ins,T.cl_Web,T.Jf0,rfl,⟨ga,gdx,gfs,eg,hg,rg.look_none rfl,_,rfl,F,[garT C p,as0 st],true,_,m0.trk,.cons hW0.gar (.cons (rsv.keep m0.keep) .nil),rv0 C p hp.toGood st sm1,λF2 v H2 m2 rv=> ?_⟩⟩
 obtain⟨a,rfl,ha,nfa,rv⟩:=(show∃a,v=.ref a/\upd H l (.lst []) a=none/\¬F2 a/\Rp1 F2 H2 a (.lst ((mayM p st).map rowT)) from rv)
 obtain⟨rs,har,rrs⟩:∃rs,H2 a=some (.lst rs)/\Rps F2 H2 rs ((mayM p st).map rowT):=by cases rv with|lst h r=>exact⟨_,h,r⟩
 have nl:¬F l:=tk.not hl
 have hl1:upd H l (.lst []) l=some (.lst []):=ag0
 have al:a≠l:=λz=>by rw [z,hl1] at ha; cases ha
 have m2':Mono F (upd H l (.lst [])) (λb=>F2 b\/ b=a) H2:=m2.freeze ha ⟨_,har⟩
 have hW2:=hW0.mono m2'
 have hl2:H2 l=some (.lst []):=m2.ext _ _ hl1
 have nl2:¬(F2 l\/ l=a):=λz=>z.elim (λz=>(m2.new l z).elim nl λz=>by rw [hl1] at z; cases z) λz=>al z.symm
 have lo2:dF0 (l::A.L) (λb=>F2 b\/ b=a) H2:=λb hb=>by
  rcases Ab2.mp hb with rfl|hb
  ·exact⟨nl2,λxs z=>by rw [hl2] at z; cases z⟩
  ·exact hW2.loose b hb
 have nlA:∀{F':Addr->Prop} {H':Hp} {W':WebM},WebAt C CWeb p F' H' w A W'->(∃xs,H' l=some (.lst xs))->l≠w/\l≠A.na/\l≠A.ma:=λhW ⟨ys,hl⟩=>by
  obtain⟨ks,hk,_⟩:=hW.mov
  exact⟨bp0 hl hW.ins nofun,bp0 hl hW.num nofun,bp0 hl hk nofun⟩
 have lsa:l≠A.sa:=λz=>by rw [z,hs] at hl; cases hl
 have lca:l≠A.ca:=λz=>by obtain⟨cs,hc,_⟩:=hW.came; rw [z,hc] at hl; cases hl
 refine⟨a,rfl,⟨rs,SqL.of har⟩,gz0 (F0:=λb=>F2 b\/ b=a) (bT0 (.inr rfl) har (rrs.keep Keep.freeze))
  (λi F' σ H'=>∃(W':WebM) (ms:List (List Nat × Nat)) (xs':List V) (y z:Option V),Chg (l::A.L) (λb=>F2 b\/ b=a) H2 F' H'/\WebAt C CWeb p F' H' w A W'/\WOk p W'/\W.sts<+:W'.sts/\W'.mov=W.mov/\H' l=some (.lst xs')/\¬F' l/\Rps F' H' xs' (ms.map kP0)/\ms.map (·.1)=(mayM p st).take i/\
   (∀m∈ms,W'.sts[m.2]?=some (an0 p st m.1))/\σ=[some (.ref w),some (.int n),some sv,some (.ref l),y,z]) ?_ ?_ ?_ ?_⟩
 ·rintro i F' σ H' ⟨W',ms,xs',y,z,c,_⟩
  exact⟨c.keep lo2,c.trk⟩
 ·exact⟨W,[],[],none,none,(Mono.refl m2'.trk).chg,hW2,ok,Aq0 _,rfl,hl2,nl2,.nil,rfl,(λ_ z=>nomatch z),rfl⟩
 ·rintro i t F3 σ H3 F4 H4 v hi ⟨W',ms,xs',y,z,c,hW3,ok3,pr,em,hl3,nl3,rm,e1,e2,rfl⟩ m4 rv
  obtain⟨r,hr',rfl⟩:∃r,(mayM p st)[i]?=some r/\t=rowT r:=by
   rw [Ab0] at hi
   cases e:(mayM p st)[i]? with
   |none=>rw [e] at hi; cases hi
   |some r=>rw [e] at hi; cases hi; exact⟨r,rfl,rfl⟩
  have hrm:r∈mayM p st:=Ac7 hr'
  obtain⟨k1,k2,k3⟩:=fh0 hrm
  have hW4:=hW3.mono m4
  have rsv2:Rp F4 H4 sv (as0 st):=(((rsv.keep m0.keep).keep m2'.keep).keep (c.keep lo2)).keep m4.keep
  obtain⟨ga,gdx,gfs,eg,hg,rg⟩:=hW4.gar.ins_
  refine⟨_,rfl,_,_,_,_,_,rfl,hW4.ins,T.cl_Web,T.Jf0,rfl,⟨ga,gdx,gfs,eg,hg,rg.look_none rfl,_,rfl,_,rfl,F4,[garT C p,as0 st,rowT r],false,_,m4.trk,.cons hW4.gar (.cons rsv2 (.cons rv .nil)),oA0 C p hp.toGood st r sm1 (λb hb=>(sm2 b hb).1) k2,λF5 v2 H5 m5 rv2=> ?_⟩⟩
  have rv2:Rp F5 H5 v2 (as0 (an0 p st r)):=rv2
  have hW5:=hW4.mono m5
  have hl5:H5 l=some (.lst xs'):=m5.ext _ _ (m4.ext _ _ hl3)
  have m45:=m4.trans m5
  refine⟨_,rfl,.inl ⟨rfl,xs',SqL.of hl5⟩,_,rfl,⟨_,rfl,w,A.dx,_,rfl,hW5.ins,rfl,_,rfl,_,rfl,_,rfl,mv0,λt1 ht1=> ?_⟩⟩
  have m6:Mono F5 H5 F5 (upd H5 t1 (.tup [.int n,v])):=.laid m5.trk ht1
  obtain⟨b1,b2⟩:=ok3.room hp
  refine⟨F5,w,A,W',an0 p st r,some (n,r),v2,.ref t1,rfl,m6.trk,hW5.mono m6,rv2.keep m6.keep,.tup ag0 (.cons (.int _) (.cons ((rv.keep m5.keep).keep m6.keep) .nil)),b1,b2,λH7 c7 hW7=> ?_⟩
  refine⟨mv0,λt2 ht2=> ?_⟩
  have lo6:=(hW5.mono m6).loose
  have m8:Mono F5 H7 F5 (upd H7 t2 (.tup [v,.int ((W'.num (an0 p st r) (some (n,r))).sts.idxOf (an0 p st r):Nat)])):=.laid c7.trk ht2
  have hl7:H7 l=some (.lst xs'):=c7.ext _ _ (by simp [lsa,lca,(nlA hW5 ⟨_,hl5⟩).2.1,(nlA hW5 ⟨_,hl5⟩).2.2]) (m6.ext _ _ hl5)
  have hl8:=m8.ext _ _ hl7
  have hlm:xs'.length<=125:=by
   have h1:=fb0 hp re
   have h2:ms.length=((mayM p st).take i).length:=by rw [<- e1,Aa1]
   rw [rm.length,Aa1,h2,Af7]
   omega
  refine⟨l,xs',_,rfl,rfl,hl8,by rw [Ae1]; omega,F5,?_⟩
  have k57:Keep F5 H5 F5 (upd H7 t2 (.tup [v,.int ((W'.num (an0 p st r) (some (n,r))).sts.idxOf (an0 p st r):Nat)])):=(m6.keep.trans (c7.keep lo6)).trans m8.keep
  have nl5:¬F5 l:=λz=>(m45.new l z).elim nl3 λz=>by rw [hl3] at z; cases z
  obtain⟨z1,z2,z3⟩:=pH0 W' (an0 p st r) (some (n,r))
  have wr:Chg (l::A.L) F5 (upd H7 t2 (.tup [v,.int ((W'.num (an0 p st r) (some (n,r))).sts.idxOf (an0 p st r):Nat)])) F5 (upd (upd H7 t2 (.tup [v,.int ((W'.num (an0 p st r) (some (n,r))).sts.idxOf (an0 p st r):Nat)])) l (.lst (xs'++ [.ref t2]))):=
   .write m8.trk (.head _) (by rw [hl8]; exact nofun)
  have lo8:dF0 [l] F5 (upd H7 t2 (.tup [v,.int ((W'.num (an0 p st r) (some (n,r))).sts.idxOf (an0 p st r):Nat)])):=λb hb=>by
   rw [Aa6.mp hb]
   exact⟨nl5,λxs z=>by rw [hl8] at z; cases z⟩
  have wr1:Chg [l] F5 (upd H7 t2 (.tup [v,.int ((W'.num (an0 p st r) (some (n,r))).sts.idxOf (an0 p st r):Nat)])) F5 (upd (upd H7 t2 (.tup [v,.int ((W'.num (an0 p st r) (some (n,r))).sts.idxOf (an0 p st r):Nat)])) l (.lst (xs'++ [.ref t2]))):=
   .write m8.trk (.head _) (by rw [hl8]; exact nofun)
  have k8:=wr1.keep lo8
  have hW8:=hW7.mono m8
  have nlw:=nlA hW8 ⟨_,hl8⟩
  refine⟨W'.num (an0 p st r) (some (n,r)),ms++ [(r,(W'.num (an0 p st r) (some (n,r))).sts.idxOf (an0 p st r))],xs'++ [.ref t2],some v,some v2,?_,?_,ok3.num (aS0 pr hn) hrm,pr.trans z1,z3.trans em,ag0,nl5,?_,?_,?_,rfl⟩
  ·exact(((c.trans m45.chg).trans m6.chg).trans ((c7.mono λa h=> .tail _ h).trans m8.chg)).trans wr
  ·exact hW8.keep wr1 lo8 (by simp [nlw.1.symm,nlw.2.1.symm,nlw.2.2.symm,lsa.symm,lca.symm])
  ·rw [Ac3]
   refine(((rm.keep m45.keep).keep k57).keep k8).append (.cons (.tup (by rw [aj0 (ah0 hl7 ht2).symm]; exact ag0) (.cons (((rv.keep m5.keep).keep k57).keep k8) (.cons (.int _) .nil))) .nil)
  ·rw [Ac3,e1,Ag9,hr']
   rfl
  ·intro m hm
   rcases Ad8.mp hm with hm|hm
   ·exact aS0 z1 (e2 m hm)
   ·rw [Aa6.mp hm]
    exact qK0 z2
 ·rintro F3 σ H3 ⟨W',ms,xs',y,z,c,hW3,ok3,pr,em,hl3,nl3,rm,e1,e2,rfl⟩
  refine⟨_,rfl,q F3 H3 W' ms l xs' ?_ hW3 ok3 pr em ⟨?_,e2⟩ hl nl3 hl3 rm⟩
  ·have c':=(m0.trans m2').chg (L:=l::A.L)|>.trans c
   exact⟨λb o nb h=>c'.ext b o (λz=>by rcases Ab2.mp z with z|z; rw [z,hl] at h; cases h; exact nb z) h,c'.sub,c'.new,c'.trk,c'.there⟩
  ·rw [e1,Aa1,Ae7]
end
theorem jR0 {β:Type}{n:Nat}{v:β}:∀{l:List (Nat × β)},l.lookup n=some v->(n,v)∈l
 | [],h=>nomatch h
 | (k,u)::l,e=>by
  rw [Ac5] at e
  cases q:n==k with
  |true=>
   rw [q] at e; cases e
   rw [show n=k from by simpa using q]
   exact .head _
  |false=>rw [q] at e; exact .tail _ (jR0 e)
theorem WOk.addM (h:WOk p W)(hs:W.sts[n]?=some s)(hm:Moves p W.sts s ms)(hn:W.mov.lookup n=none):WOk p {W with mov:=W.mov++ [(n,ms)]}:=by
 refine⟨h.nd,h.re,h.st,h.cl,h.cm,?_,λx hx=> ?_⟩
 ·rw [Ac3]
  refine Al4.mpr ⟨h.mn,Ae8.mpr ⟨nofun,Ag6⟩,λa ha b hb e=> ?_⟩
  rw [Aa6.mp hb] at e
  have e:a=n:=e
  exact look_none hn (e▸ha)
 ·rcases Ad8.mp hx with hx|hx
  ·exact h.mv x hx
  ·rw [Aa6.mp hx]
   exact⟨s,hs,hm⟩
theorem WebAt.addM {F:Addr->Prop}{H:Hp}(hW:WebAt C CW p F H w A W)(tk:Trk F H){ms:List (List Nat × Nat)}(ha:H a=some (.lst xs))(na:a∉ [w,A.sa,A.na,A.ca,A.ma])(rx:Rps F H xs (ms.map kP0))
  (hk:H A.ma=some (.dK kvs)) (rk:Paired (λ(x:Key × V) (y:Nat × List (List Nat × Nat))=>x.1=.inl (y.1:Int)/\Rp F H x.2 (eM0 y.2)) kvs W.mov):
  Chg A.L F H F (upd H A.ma (.dK (kvs++ [(.inl (n:Int),.ref a)])))/\WebAt C CW p (λb=>F b\/ b=a) (upd H A.ma (.dK (kvs++ [(.inl (n:Int),.ref a)]))) w A {W with mov:=W.mov++ [(n,ms)]}:=by
 obtain⟨xs1,h1,r1⟩:=hW.sts
 obtain⟨ys,h2,r2⟩:=hW.came
 have n1:w≠A.ma:=bp0 hW.ins hk nofun
 have n2:A.na≠A.ma:=bp0 hW.num hk nofun
 have n3:A.sa≠A.ma:=bp0 h1 hk nofun
 have n4:A.ca≠A.ma:=bp0 h2 hk nofun
 have n5:a≠A.ma:=λz=>na (by simp [z])
 have z1:Chg A.L F H F (upd H A.ma (.dK (kvs++ [(.inl (n:Int),.ref a)]))):=.write tk (by simp) (by rw [hk]; exact nofun)
 have k:Keep F H (λb=>F b\/ b=a) (upd H A.ma (.dK (kvs++ [(.inl (n:Int),.ref a)]))):=(z1.keep hW.loose).trans Keep.freeze
 refine⟨z1,(aj0 n1).trans hW.ins,hW.gar.keep k,⟨xs1,(aj0 n3).trans h1,r1.keep k⟩,(aj0 n2).trans hW.num,⟨ys,(aj0 n4).trans h2,r2.keep k⟩,⟨_,ag0,?_⟩,λb hb z=>z.elim (hW.free b hb) λz=>na (z▸hb),hW.ne⟩
 exact Paired.snoc (Paired.map2 (λ_ _ x=>⟨x.1,x.2.keep k⟩) rk) ⟨rfl,.lst (.inr rfl) ((aj0 n5).trans ha) (rx.keep k)⟩
section
variable {P:Program}{w:World}{K:Aa3}{mg:Str->Option Value}{base:Heap}{C CWeb f:Addr}{fd:FuncData}{p:Plot}
theorem zs0 (Fn:Fun K "moves_of" "Web.moves_of" Ke0 f fd) (T:Txt K mg C CWeb) (hp:Tight p) (D1:SpOk P w K mg base CWeb 4 "worked_out" Y8 (mz0 C CWeb p)):FnOk P w K mg base CX0 5 f fd Y5 (nC0 C CWeb p):=by
 have sc:=km0
 refine Fn.ok sc (λvs H Q E h=> ?_) λcdv Ar outer s H vs Q E hr h=> ?_
 ·obtain⟨F,w,A,W,n,s,rfl,_⟩:=h; rfl
 obtain⟨F,w,A,W,n,st,rfl,tk,hW,ok,hn,q1,q2⟩:=h
 obtain⟨f1,d1,F1,M1,B1⟩:=D1
 refine⟨_,am0 (cM0 (dL0 (cS0 (ce0 hr) (pv 1) (aR0 (pv 0) rfl)) rfl)
   (aw0 (cP0 (ce0 hr) (aR0 (pv 0) rfl) (pv 1) (bH0 (pv 0) T.cl_Web M1 F1 hr.mono B1 .nil bf0 (ao0 (pv 1) ax0)) rfl))
   bq0) (aw0 (aW0 (cF0 (ce0 hr) (aR0 (pv 0) rfl) (pv 1) (λ_ _=>rfl)))),?_⟩
 obtain⟨kvs,hk,rk⟩:=hW.mov
 refine⟨_,rfl,r_fld rfl hW.ins T.cl_Web T.W6 rfl ⟨A.ma,_,rfl,DGet.k (k:=.inl (n:Int)) hk,_,rfl,?_⟩⟩
 obtain⟨v1,v2⟩:=lN0 n rk
 cases e:W.mov.lookup n with
 |some ms=>
  obtain⟨v,ev,rv⟩:=v2 ms e
  rw [ev]
  refine iteF ?_
  refine⟨_,rfl,_,_,_,_,_,rfl,hW.ins,T.cl_Web,T.W6,rfl,⟨_,rfl,A.ma,v,rfl,?_,q1 ms v e rv⟩⟩
  have:=DGet.k (k:=Sum.inl (n:Int)) hk
  rw [ev] at this
  exact this
 |none=>
  rw [v1 e]
  refine iteT ?_
  refine⟨_,rfl,w,A.dx,_,rfl,hW.ins,rfl,_,rfl,F,w,A,W,n,st,rfl,tk,hW,ok,hn,λF' H' W' ms a xs c hW' ok' pr em mv ha nfa hax rx=> ?_⟩
  obtain⟨kvs',hk',rk'⟩:=hW'.mov
  have na:a∉ [w,A.sa,A.na,A.ca,A.ma]:=λz=>by
   obtain⟨o,q,_⟩:=hW.there a z
   rw [ha] at q; cases q
  have few:=ok'.fewM hp
  have lk:kvs'.length=W'.mov.length:=Paired.length rk'
  have vn:valV kvs' (Sum.inl (n:Int))=none:=(lN0 n rk').1 (by rw [em]; exact e)
  refine⟨_,rfl,_,_,_,_,_,rfl,hW'.ins,T.cl_Web,T.W6,rfl,⟨_,rfl,A.ma,_,rfl,DPut.k (k:=.inl (n:Int)) hk' (by rw [Ae1]; omega),?_⟩⟩
  rw [dW0 _ vn]
  obtain⟨z1,hW''⟩:=hW'.addM c.trk (n:=n) hax na rx hk' rk'
  have tk2:Trk (λb=>F' b\/ b=a) (upd H' A.ma (.dK (kvs'++ [(.inl (n:Int),.ref a)]))):=λb hb=>hb.elim (z1.trk b) λz=>by rw [z]; exact⟨_,(aj0 (λz=>na (by simp [z]))).trans hax⟩
  refine⟨_,rfl,_,_,_,_,_,rfl,hW''.ins,T.cl_Web,T.W6,rfl,⟨_,rfl,A.ma,.ref a,rfl,?_,q2 e _ _ _ ms _ ((c.trans z1).freeze ha (tk2 a (.inr rfl))) hW'' (ok'.addM (aS0 pr hn) mv (by rw [em]; exact e)) pr (by rw [<- em]) ?_⟩⟩
  ·have:=DGet.k (k:=Sum.inl (n:Int)) (show upd H' A.ma (.dK (kvs'++ [(.inl (n:Int),.ref a)])) A.ma=_ from ag0)
   rw [dE0 _ _ _ _ vn,if_pos rfl] at this
   exact this
  ·refine .lst (.inr rfl) ((aj0 (λz=>na (by simp [z]))).trans hax) (rx.keep ((z1.keep hW'.loose).trans Keep.freeze))
end
theorem _root_.L2.BD.Chg.fld {F:Addr->Prop}{H Hk:Hp}(c:Chg [w] F H F Hk)(n:Hk a=none)(hw:Hk w≠none):Chg [w] F H F (upd (upd Hk a o) w o'):=by
 have m:Mono F Hk F (upd Hk a o):=.laid c.trk n
 have c1:Chg [w] F H F (upd Hk a o):=c.trans m.chg
 exact c1.trans (.write c1.trk (.head _) (m.chg.there (L:=[]) w hw))
theorem upd2 {Hk:Hp}(h:Hk b=some x)(n:Hk a=none)(nw:b≠w):upd (upd Hk a o) w o' b=some x:=by rw [aj0 nw,aj0 (ah0 h n)]; exact h
theorem upd3 (nw:a≠w):upd (upd Hk a o) w o' a=some o:=by rw [aj0 nw]; exact ag0
theorem mr0:WOk p ⟨[aE0 p],[none],[]⟩:=by
 refine⟨Ae8.mpr ⟨nofun,Ag6⟩,λs hs=> ?_,rfl,rfl,λi c e=> ?_,Ag6,λx hx=>nomatch hx⟩
 ·rw [Aa6.mp hs]; exact .start
 ·match i,e with
  |0,e=>cases e; exact .inl ⟨rfl,rfl⟩
  |i+1,e=>cases e
section
variable {P:Program}{w:World}{K:Aa3}{mg:Str->Option Value}{base:Heap}{C CWeb f:Addr}{fd:FuncData}{p:Plot}
theorem qs0 (Fn:Fun K "__init__" "Web.__init__" Qe0 f fd) (T:Txt K mg C CWeb) (hp:Tight p) (D1:ex0 P w K mg base C 1 "start" yb0 (V7 C)) (D2:SpOk P w K mg base CWeb 1 "number_of" V5 (nw0 C CWeb p)):FnOk P w K mg base CX0 2 f fd V8 (pz0 C CWeb p):=by
 have sc:=qm0
 refine Fn.ok sc (λvs H Q E h=> ?_) λcdv Ar outer s H vs Q E hr h=> ?_
 ·obtain⟨F,w,dx,gv,rfl,_⟩:=h; rfl
 obtain⟨F,w,dx,gv,rfl,tk,hw,nfw,rg,q⟩:=h
 obtain⟨f1,d1,F1,M1,B1⟩:=D1
 obtain⟨f2,d2,F2,M2,B2⟩:=D2
 refine⟨_,am0 (dm0 (pv 0) (pv 1) rfl) (am0 (dm0 (pv 0) (dP0 ax0) rfl) (am0 (dm0 (pv 0) eC0 rfl) (am0 (dm0 (pv 0) (dP0 ax0) rfl) (am0 (dm0 (pv 0) eF0 rfl)
  (aw0 (bB0 (bH0 (pv 0) T.cl_Web M2 F2 hr.mono B2 .nil bf0 (ao0 (ci0 (pv 1) T.cl_Garden M1 F1 hr.mono B1 .nil bf0) (ao0 ep0 ax0))))))))),?_⟩
 refine⟨_,rfl,_,rfl,w,CWeb,dx,[],rfl,hw,T.cl_Web,T.Jf0,by simp,?_⟩
 have c1:Chg [w] F H F (upd H w (.ins CWeb dx (putF "garden" gv []))):=.write tk (.head _) (by rw [hw]; exact nofun)
 have w1:upd H w (.ins CWeb dx (putF "garden" gv [])) w=some (.ins CWeb dx [("garden",gv)]):=ag0
 generalize upd H w (.ins CWeb dx (putF "garden" gv []))=H1 at c1 w1 ⊢
 refine⟨Ae5 _,λsa n2=>⟨_,rfl,w,CWeb,dx,_,rfl,(aj0 (ah0 w1 n2)).trans w1,T.cl_Web,T.W9,by simp,?_⟩⟩
 have c2:=c1.fld (o:=.lst []) (o':=.ins CWeb dx (putF "states" (.ref sa) [("garden",gv)])) n2 (by rw [w1]; exact nofun)
 have w2:upd (upd H1 sa (.lst [])) w (.ins CWeb dx (putF "states" (.ref sa) [("garden",gv)])) w=some (.ins CWeb dx [("garden",gv),("states",.ref sa)]):=ag0
 have s2:=upd3 (Hk:=H1) (o:=.lst []) (o':=.ins CWeb dx (putF "states" (.ref sa) [("garden",gv)])) (ah0 w1 n2).symm
 generalize upd (upd H1 sa (.lst [])) w (.ins CWeb dx (putF "states" (.ref sa) [("garden",gv)]))=H2 at c2 w2 s2 ⊢
 refine λna n3=>⟨_,rfl,w,CWeb,dx,_,rfl,(aj0 (ah0 w2 n3)).trans w2,T.cl_Web,T.K6,by simp,?_⟩
 have c3:=c2.fld (o:=.dT []) (o':=.ins CWeb dx (putF "numbers" (.ref na) [("garden",gv),("states",.ref sa)])) n3 (by rw [w2]; exact nofun)
 have w3:upd (upd H2 na (.dT [])) w (.ins CWeb dx (putF "numbers" (.ref na) [("garden",gv),("states",.ref sa)])) w=some (.ins CWeb dx [("garden",gv),("states",.ref sa),("numbers",.ref na)]):=ag0
 have s3:=upd2 (o:=.dT []) (o':=.ins CWeb dx (putF "numbers" (.ref na) [("garden",gv),("states",.ref sa)])) s2 n3 (ah0 w1 n2).symm
 have t3:=upd3 (Hk:=H2) (o:=.dT []) (o':=.ins CWeb dx (putF "numbers" (.ref na) [("garden",gv),("states",.ref sa)])) (ah0 w2 n3).symm
 generalize upd (upd H2 na (.dT [])) w (.ins CWeb dx (putF "numbers" (.ref na) [("garden",gv),("states",.ref sa)]))=H3 at c3 w3 s3 t3 ⊢
 refine⟨Ae5 _,λca n4=>⟨_,rfl,w,CWeb,dx,_,rfl,(aj0 (ah0 w3 n4)).trans w3,T.cl_Web,T.yj0,by simp,?_⟩⟩
 have c4:=c3.fld (o:=.lst []) (o':=.ins CWeb dx (putF "came" (.ref ca) [("garden",gv),("states",.ref sa),("numbers",.ref na)])) n4 (by rw [w3]; exact nofun)
 have w4:upd (upd H3 ca (.lst [])) w (.ins CWeb dx (putF "came" (.ref ca) [("garden",gv),("states",.ref sa),("numbers",.ref na)])) w=some (.ins CWeb dx [("garden",gv),("states",.ref sa),("numbers",.ref na),("came",.ref ca)]):=ag0
 have s4:=upd2 (o:=.lst []) (o':=.ins CWeb dx (putF "came" (.ref ca) [("garden",gv),("states",.ref sa),("numbers",.ref na)])) s3 n4 (ah0 w1 n2).symm
 have t4:=upd2 (o:=.lst []) (o':=.ins CWeb dx (putF "came" (.ref ca) [("garden",gv),("states",.ref sa),("numbers",.ref na)])) t3 n4 (ah0 w2 n3).symm
 have u4:=upd3 (Hk:=H3) (o:=.lst []) (o':=.ins CWeb dx (putF "came" (.ref ca) [("garden",gv),("states",.ref sa),("numbers",.ref na)])) (ah0 w3 n4).symm
 have sca:sa≠ca:=ah0 s3 n4
 generalize upd (upd H3 ca (.lst [])) w (.ins CWeb dx (putF "came" (.ref ca) [("garden",gv),("states",.ref sa),("numbers",.ref na)]))=H4 at c4 w4 s4 t4 u4 ⊢
 refine λma n5=>⟨_,rfl,w,CWeb,dx,_,rfl,(aj0 (ah0 w4 n5)).trans w4,T.cl_Web,T.W6,by simp,?_⟩
 have c5:=c4.fld (o:=.dK []) (o':=.ins CWeb dx (putF "moves" (.ref ma) [("garden",gv),("states",.ref sa),("numbers",.ref na),("came",.ref ca)])) n5 (by rw [w4]; exact nofun)
 have w5:upd (upd H4 ma (.dK [])) w (.ins CWeb dx (putF "moves" (.ref ma) [("garden",gv),("states",.ref sa),("numbers",.ref na),("came",.ref ca)])) w=some (.ins CWeb dx [("garden",gv),("states",.ref sa),("numbers",.ref na),("came",.ref ca),("moves",.ref ma)]):=ag0
 have s5:=upd2 (o:=.dK []) (o':=.ins CWeb dx (putF "moves" (.ref ma) [("garden",gv),("states",.ref sa),("numbers",.ref na),("came",.ref ca)])) s4 n5 (ah0 w1 n2).symm
 have t5:=upd2 (o:=.dK []) (o':=.ins CWeb dx (putF "moves" (.ref ma) [("garden",gv),("states",.ref sa),("numbers",.ref na),("came",.ref ca)])) t4 n5 (ah0 w2 n3).symm
 have u5:=upd2 (o:=.dK []) (o':=.ins CWeb dx (putF "moves" (.ref ma) [("garden",gv),("states",.ref sa),("numbers",.ref na),("came",.ref ca)])) u4 n5 (ah0 w3 n4).symm
 have v5:=upd3 (Hk:=H4) (o:=.dK []) (o':=.ins CWeb dx (putF "moves" (.ref ma) [("garden",gv),("states",.ref sa),("numbers",.ref na),("came",.ref ca)])) (ah0 w4 n5).symm
 generalize upd (upd H4 ma (.dK [])) w (.ins CWeb dx (putF "moves" (.ref ma) [("garden",gv),("states",.ref sa),("numbers",.ref na),("came",.ref ca)]))=H5 at c5 w5 s5 t5 u5 v5 ⊢
 have bk:∀{Hk:Hp} {a:Addr},Chg [w] F H F Hk->Hk a=none->H a=none:=λc n=>Classical.byContradiction λz=>c.there _ z n
 have lo:dF0 [w] F H:=λa ha=>by rw [Aa6.mp ha]; exact⟨nfw,λxs z=>by rw [hw] at z; cases z⟩
 have hW:WebAt C CWeb p F H5 w ⟨dx,sa,na,ca,ma,gv⟩ ⟨[],[],[]⟩:=by
  refine⟨w5,rg.keep (c5.keep lo),⟨[],s5,.nil⟩,t5,⟨[],u5,.nil⟩,⟨[],v5,.nil⟩,λa ha=> ?_,sca⟩
  simp only [Ab2,Ad0,Ah8] at ha
  rcases ha with rfl|rfl|rfl|rfl|rfl
  ·exact nfw
  ·exact tk.not (bk c1 n2)
  ·exact tk.not (bk c2 n3)
  ·exact tk.not (bk c3 n4)
  ·exact tk.not (bk c4 n5)
 obtain⟨ga,gdx,gfs,eg,hg,rgf⟩:=hW.gar.ins_
 refine⟨_,rfl,w,dx,_,rfl,w5,rfl,⟨_,rfl,ga,gdx,gfs,eg,hg,rgf.look_none rfl,F,[garT C p],false,_,c5.trk,.cons hW.gar .nil,on0 C p (by have:=hp.beds; omega),λF' v H' m rv=> ?_⟩⟩
 have rv:Rp F' H' v (as0 (aE0 p)):=rv
 refine⟨F',w,⟨dx,sa,na,ca,ma,gv⟩,⟨[],[],[]⟩,aE0 p,none,v,.non,rfl,m.trk,hW.mono m,rv,.non,by decide,by decide,λH6 c6 hW6=> ?_⟩
 have e:(WebM.mk [] [] []).num (aE0 p) none=⟨[aE0 p],[none],[]⟩:=if_neg nofun
 rw [e] at hW6
 have all:∀a∈(WAd.mk dx sa na ca ma gv).L,H a=none:=λa ha=>by
  simp only [Ab2,Ad0,Ah8] at ha
  rcases ha with rfl|rfl|rfl|rfl
  ·exact bk c1 n2
  ·exact bk c2 n3
  ·exact bk c3 n4
  ·exact bk c4 n5
 refine q F' H6 _ _ ?_ all hW6 mr0 rfl
 have c:=c5.trans m.chg
 exact⟨λb o nb h=>c6.ext b o (λz=>by rw [all b z] at h; cases h) (c.ext b o nb h),c.sub,c.new,c6.trk,λb h=>c6.there b (c.there b h)⟩
end
def cQ0 (p:Plot)(s:Stt):List T:=(mayM p s).map λr=> .tup [rowT r,as0 (an0 p s r)]
def MkOk (P:Program)(w:World)(K:Aa3)(mg:Str->Option Value)(base:Heap)(C:Addr)(k:Nat)(x:Str)(ps:List Str)(sp:Sp):Prop:=∃f fd,FnOk P w K mg base CX0 k f fd ps sp/\Mk K C f/\mg x=some (.ref C)/\Binds K fd ps []
def DfOk (P:Program)(w:World)(K:Aa3)(mg:Str->Option Value)(base:Heap)(k:Nat)(x:Str)(ps:List Str)(sp:Sp):Prop:=∃f fd,FnOk P w K mg base CX0 k f fd ps sp/\mg x=some (.ref f)/\PySem.W.keepIn K (.ref f)=true/\Binds K fd ps []
theorem kF0 {p:Plot}{l:List Stt}(h0:aE0 p∈l)(h:∀s∈l,∀r∈mayM p s,an0 p s r∈l){s:Stt}(hs:Reach p s):s∈l:=by
 induction hs with
 |start=>exact h0
 |step _ m ih=>exact h _ ih _ m
theorem lL0 {R:SK × V->Stt->Prop}(h:Paired (λkv s=>kv.1=keyS s/\R kv s) kvs l)(n:s∉l):valV kvs (keyS s)=none:=by
 induction h with
 |nil=>rfl
 | @cons kv t _ _ h _ ih=>
  rw [bc0 (λz=>n (by rw [<- dQ0 (h.1.symm.trans z)]; exact .head _))]
  exact ih λz=>n (.tail _ z)
theorem hR0 {R:SK × V->Stt->Prop}(h:Paired (λkv s=>kv.1=keyS s/\R kv s) kvs l)(n:s∈l):∃kv,kv∈kvs/\valV kvs (keyS s)=some kv.2/\R kv s:=by
 induction h with
 |nil=>exact nomatch n
 | @cons kv t kvs _ h _ ih=>
  by_cases e:t=s
  ·subst e
   exact⟨kv,.head _,bg0 h.1,h.2⟩
  ·rw [bc0 (λz=>e (dQ0 (h.1.symm.trans z)))]
   obtain⟨kv',h1,h2⟩:=ih ((Ab2.mp n).resolve_left λz=>e z.symm)
   exact⟨kv',.tail _ h1,h2⟩
section
variable {P:Program}{w:World}{K:Aa3}{mg:Str->Option Value}{base:Heap}{C CWeb f:Addr}{fd:FuncData}{p:Plot}
end
def ToldF (p:Plot)(F:Addr->Prop)(H:Hp):List (SK × V)->List Stt->Prop:=Paired λkv s=>kv.1=keyS s/\Rp F H kv.2 (.lst (cQ0 p s))
theorem ToldF.keep {F F':Addr->Prop}(h:ToldF p F H kvs sts)(k:Keep F H F' H'):ToldF p F' H' kvs sts:=Paired.map2 (λ_ _ x=>⟨x.1,x.2.keep k⟩) h
def pm0 (p:Plot):Sp:=λvs H Q _=>∃F pv,vs=[pv]/\Trk F H/\Rp F H pv (aD0 p)/\
 ∀F' H' d kvs sts,Mono F H F' H'->H d=none->¬F' d->H' d=some (.dT kvs)->sts.Nodup->(∀s,s∈sts↔Reach p s)->ToldF p F' H' kvs sts->Q (.ref d) H'
def oP0 (p:Plot)(plv:V)(d qa:Addr)(Fa:Addr->Prop)(H1:Hp)(m:Nat)(σ:L2.St)(H':Hp):Prop:=
 ∃(F':Addr->Prop) (kvs:List (SK × V)) (qs:List V) (ds ws:List Stt) (y:Option V),σ=[some plv,some (.ref d),some (.ref qa),y]/\Chg [d,qa] Fa H1 F' H'/\¬F' d/\¬F' qa/\H' d=some (.dT kvs)/\H' qa=some (.lst qs)/\ToldF p F' H' kvs ds/\Rps F' H' qs (ws.map as0)/\
  ds.Nodup/\(∀s∈ds,Reach p s)/\(∀s∈ws,Reach p s)/\(∀s∈ds,∀r∈mayM p s,an0 p s r∈ds\/ an0 p s r∈ws)/\(aE0 p∈ds\/ aE0 p∈ws)/\ws.length<=1+125*ds.length/\m=(1300 - ds.length)*126+ws.length
theorem gl0 {F:Addr->Prop}:∀{xs:List V} (ts:List BD.T) {t:BD.T},Rps F H xs (ts++ [t])->∃ys y,xs=ys++ [y]/\Rps F H ys ts/\Rp F H y t
 |_,[],_,r=>by
  obtain⟨y,rfl,h⟩:=r.one
  exact⟨[],y,rfl,.nil,h⟩
 |_,u::ts,t,r=>by
  rw [An3] at r
  cases r with
  |cons h r=>
   obtain⟨ys,y,rfl,h1,h2⟩:=gl0 ts r
   exact⟨_::ys,y,rfl,.cons h h1,h2⟩
section
variable {P:Program}{w:World}{K:Aa3}{mg:Str->Option Value}{base:Heap}{C CWeb f:Addr}{fd:FuncData}{p:Plot}
theorem js0 (Fn:Fun K "_law_states" "_law_states" J6 f fd) (T:Txt K mg C CWeb) (hp:Tight p) (D1:bj0 P w K mg base 1 "_law_start" K8 (Q3 C)) (D2:bj0 P w K mg base 2 "_law_may" hd0 (V2 C)) (D3:bj0 P w K mg base 2 "_law_behind" Wd0 (Y2 C)):
  FnOk P w K mg base CX0 3 f fd Z9 (pm0 p):=by
 have sc:=Xm0
 refine Fn.ok sc (λvs H Q E h=> ?_) λcdv Ar outer s H vs Q E hr h=> ?_
 ·obtain⟨F,pv,rfl,_⟩:=h; rfl
 obtain⟨F,plv,rfl,tk,rp,q⟩:=h
 obtain⟨f1,d1,F1,m1,k1,B1⟩:=D1
 obtain⟨f2,d2,F2,m2,k2,B2⟩:=D2
 obtain⟨f3,d3,F3,m3,k3,B3⟩:=D3
 refine⟨_,am0 (bA0 (i:=1) sc.nd rfl (Or.inl rfl) eC0)
  (am0 (bA0 (i:=2) sc.nd rfl (Or.inl rfl) (dP0 (ao0 (bL0 F1 hr.mono (by rfl) m1 k1 B1 .nil bf0 (ao0 (pv 0) ax0)) ax0)))
  (am0 (dD0 PassesOwn.never (eB0 (pv 2) (λ_=>rfl))
   (am0 (bA0 (i:=3) sc.nd rfl (Or.inr rfl) (lX0 Ae0 Aq3 Aq4 ll0 (pv 2)))
   (aw0 (cM0 (dL0 (cS0 (ce0 hr) (pv 3) (pv 1)) rfl)
    (am0 (cP0 (ce0 hr) (pv 1) (pv 3) (ej0 (g:=cr0 0) (te:=tTup (fy0 (tVar 0) (fy0 (nx0 (spP (Y2 C)) [] E0 (fy0 (tVar 1) (fy0 (tVar 4) (fy0 (tVar 0) tNil)))) tNil))) (own:=["row"]) rfl (cc0 x9 (ad0 J6) rfl rfl (by decide +kernel))
      (dy0 (bL0 F2 hr.mono (by rfl) m2 k2 B2 .nil bf0 (ao0 (pv 0) (ao0 (pv 3) ax0))))
      (λ_ _ _ _=>at0 (i:=0) (bM0 ((["row"]:List Str)++hide ["row"] x9) rfl (by decide +kernel)) rfl (Or.inl rfl)) (λ_ _ _ _=>gn0)
      (λ_ _ _ _=>fP0 (ao0 (pv 0) (ao0 (bL0 F3 hr.mono (by rfl) m3 k3 B3 .nil bf0 (ao0 (pv 1) (ao0 (pv 4) (ao0 (pv 0) ax0)))) ax0)))) rfl)
    (aw0 (bB0 (fw0 Ae0 At6 At7 hE0 (pv 2)
     (ao0 (ej0 (g:=cr0 0) (te:=tOp (rIxT K) (tVar 0) (tC (.int 1))) (own:=["step"]) rfl (cc0 x9 (ad0 J6) rfl rfl (by decide +kernel)) (dy0 (cF0 (ce0 hr) (pv 1) (pv 3) (λ_ _=>rfl)))
      (λ_ _ _ _=>at0 (i:=0) (bM0 ((["step"]:List Str)++hide ["step"] x9) rfl (by decide +kernel)) rfl (Or.inl rfl)) (λ_ _ _ _=>gn0)
      (λ_ _ _ _=>gy0 L2.ix_tup (pv 0) cC0 (λ_ _=>rfl))) ax0)))))
    bq0))))
  (aw0 (aW0 (pv 1))))),?_⟩
 intro d hd
 have md:Mono F H F (upd H d (.dT [])):=.laid tk hd
 refine⟨_,rfl,F,[aD0 p],false,_,md.trk,.cons (rp.keep md.keep) .nil,dx0 C p (by have:=hp.beds; omega),λFa sv Ha ma rsv=> ?_⟩
 have rsv:Rp Fa Ha sv (as0 (aE0 p)):=rsv
 refine⟨nb0,λqa hqa=> ?_⟩
 have mq:Mono Fa Ha Fa (upd Ha qa (.lst [sv])):=.laid ma.trk hqa
 have m0:=(md.trans ma).trans mq
 have da:upd Ha qa (.lst [sv]) d=some (.dT []):=mq.ext _ _ (ma.ext _ _ ag0)
 have qa0:upd Ha qa (.lst [sv]) qa=some (.lst [sv]):=ag0
 have nq:H qa=none:=Classical.byContradiction λz=>(md.trans ma).chg.there (L:=[]) qa z hqa
 have nfd:¬Fa d:=λz=>(ma.new d z).elim (tk.not hd) λz=>by rw [ag0] at z; cases z
 have nfq:¬Fa qa:=Trk.not ma.trk hqa
 have dq:d≠qa:=bp0 da qa0 nofun
 have rsv:=rsv.keep mq.keep
 have rp1:=rp.keep m0.keep
 have tk1:=m0.trk
 generalize upd Ha qa (.lst [sv])=H1 at*
 have lo1:∀{F':Addr->Prop} {H':Hp} {kvs:List (SK × V)} {qs:List V},¬F' d->¬F' qa->H' d=some (.dT kvs)->H' qa=some (.lst qs)->dF0 [d,qa] F' H':=λh1 h2 h3 h4 a ha=>by
  simp only [Ab2,Ad0,Ah8] at ha
  rcases ha with rfl|rfl
  ·exact⟨h1,λxs z=>by rw [h3] at z; cases z⟩
  ·exact⟨h2,λxs z=>by rw [h4] at z; cases z⟩
 have lo0:=lo1 nfd nfq da qa0
 refine⟨oP0 p plv d qa Fa H1,⟨_,Fa,[],[sv],[],[aE0 p],none,rfl,(Mono.refl tk1).chg,nfd,nfq,da,qa0,.nil,.cons rsv .nil,Ag6,(λ_ z=>nomatch z),(λs hs=>by rw [Aa6.mp hs]; exact .start),(λ_ z=>nomatch z),.inr (.head _),by simp,rfl⟩,?_⟩
 rintro m σ H' ⟨F',kvs,qs,ds,ws,y,rfl,c,nd',nq',hd',hq',told,rqs,i1,i2,i3,i4,i5,i6,rfl⟩
 have few:=bz0 hp i1 i2
 have lq:qs.length=ws.length:=by rw [rqs.length,Aa1]
 have cmono:Mono F H F' H':=(m0.chg.trans c).toMono (L:=[d,qa]) λa ha=>by
  simp only [Ab2,Ad0,Ah8] at ha
  rcases ha with rfl|rfl
  ·exact hd
  ·exact nq
 refine⟨_,rfl, !qs.isEmpty,.inl ⟨qs,SqL.of hq',rfl⟩,?_⟩
 by_cases hne:qs=[]
 ·subst hne
  have:ws=[]:=Ae2 (by rw [<- lq]; rfl)
  subst this
  refine iteF ⟨_,rfl,q F' H' d kvs ds cmono hd nd' hd' i1 (λs=>⟨i2 s,kF0 (i5.resolve_right nofun) λs hs r hr=>(i4 s hs r hr).resolve_right nofun⟩) told⟩
 ·rw [show (!qs.isEmpty)=true by cases qs; exact absurd rfl hne; rfl]
  have hwn:ws≠ []:=λz=>hne (Ae2 (by rw [lq,z]; rfl))
  obtain⟨w0,st,rfl⟩:∃w0 st,ws=w0++ [st]:=⟨_,_,(Af0 hwn).symm⟩
  rw [Ac3] at rqs
  obtain⟨q0,x,rfl,rq0,rx⟩:=gl0 _ rqs
  refine iteT ⟨λσ' H2=>∃m',m'<_/\oP0 p plv d qa Fa H1 m' σ' H2,λσ' H2 h=>h,?_⟩
  refine⟨_,rfl,.inl ⟨rfl,q0++ [x],SqL.of hq'⟩,qa,q0++ [x],x,rfl,rfl,hq',by simp,?_⟩
  rw [Ak2]
  have rst:=i3 st (Ac1 _ (.head _))
  have w1:Chg [d,qa] F' H' F' (upd H' qa (.lst q0)):=.write c.trk (by simp) (by rw [hq']; exact nofun)
  have k1:=w1.keep (lo1 nd' nq' hd' hq')
  have hd2:upd H' qa (.lst q0) d=some (.dT kvs):=(aj0 dq).trans hd'
  have hq2:upd H' qa (.lst q0) qa=some (.lst q0):=ag0
  have rx2:=rx.keep k1
  have rp2:=((rp1.keep (c.keep lo0)).keep k1)
  have told2:=told.keep k1
  have rq2:=rq0.keep k1
  have c2:=c.trans w1
  generalize upd H' qa (.lst q0)=H2 at w1 k1 hd2 hq2 rx2 rp2 told2 rq2 c2 ⊢
  obtain⟨b,rfl,kb⟩:=gM0 rx2
  have lw:(w0++ [st]).length=w0.length+1:=by rw [Aa5]; rfl
  refine⟨_,rfl,_,rfl,d,_,rfl,DGet.t hd2 kb,_,rfl,?_⟩
  by_cases hin:st∈ds
  ·obtain⟨kv,_,e,_⟩:=hR0 told2 hin
   rw [e]
   refine iteF ⟨_,by omega,F',kvs,q0,ds,w0,_,rfl,c2,nd',nq',hd2,hq2,told2,rq2,i1,i2,(λs hs=>i3 s (Ag2 _ hs)),(λs hs r hr=> ?_),?_,by omega,rfl⟩
   ·rcases i4 s hs r hr with z|z
    ·exact .inl z
    ·rcases Ad8.mp z with z|z
     ·exact .inr z
     ·rw [Aa6.mp z]; exact .inl hin
   ·rcases i5 with z|z
    ·exact .inl z
    ·rcases Ad8.mp z with z|z
     ·exact .inr z
     ·rw [Aa6.mp z]; exact .inl hin
  ·have vn:=lL0 told2 hin
   rw [vn]
   refine iteT (oe0 (gW0 (mw0 ?_)))
   obtain⟨sm1,sm2⟩:=rst.small hp
   refine⟨_,rfl,_,rfl,F',[aD0 p,as0 st],true,_,w1.trk,.cons rp2 (.cons rx2 .nil),hx0 C p hp.toGood st sm1 sm2,λF3 v H3 m3 rv=> ?_⟩
   obtain⟨a,rfl,ha,nfa,rv⟩:=(show∃a,v=.ref a/\H2 a=none/\¬F3 a/\Rp1 F3 H3 a (.lst ((mayM p st).map rowT)) from rv)
   obtain⟨rs,har,rrs⟩:∃rs,H3 a=some (.lst rs)/\Rps F3 H3 rs ((mayM p st).map rowT):=by cases rv with|lst h r=>exact⟨_,h,r⟩
   have m3':Mono F' H2 (λb=>F3 b\/ b=a) H3:=m3.freeze ha ⟨_,har⟩
   have fm:=fb0 hp rst
   refine⟨a,rfl,⟨rs,SqL.of har⟩,ei0 (F:=λb=>F3 b\/ b=a) (us:=cQ0 p st) (bT0 (.inr rfl) har (rrs.keep Keep.freeze)) m3'.trk (by rw [Aa1]; omega) (by unfold cQ0; rw [Aa1,Aa1]) ?_ ?_⟩
   ·intro j tj uj F5 H5 x5 R hj hu m5 r5 k5
    cases er:(mayM p st)[j]? with
    |none=>rw [Ab0,er] at hj; cases hj
    |some r=>
     unfold cQ0 at hu
     rw [Ab0,er] at hj hu
     cases hj; cases hu
     have hrm:r∈mayM p st:=Ac7 er
     obtain⟨l1,l2,l3⟩:=fh0 hrm
     have m35:=m3'.trans m5
     refine⟨rfl,_,rfl,_,rfl,_,rfl,_,rfl,F5,[aD0 p,as0 st,rowT r],false,_,m5.trk,.cons (rp2.keep m35.keep) (.cons (rx2.keep m35.keep) (.cons r5 .nil)),es0 C p hp.toGood st r sm1 (λb hb=>(sm2 b hb).1) l1 l3,λF6 v6 H6 m6 r6=>⟨mv0,λt ht=> ?_⟩⟩
     have m7:Mono F6 H6 F6 (upd H6 t (.tup [x5,v6])):=.laid m6.trk ht
     exact k5 F6 _ _ (m6.trans m7) (.tup ag0 (.cons (r5.keep (m6.trans m7).keep) (.cons (Rp.keep m7.keep r6) .nil)))
   ·intro F5 H5 l zs m5 hl rz
    have m35:=m3'.trans m5
    have m6:Mono F5 H5 (λb=>F5 b\/ b=l) (upd H5 l (.lst zs)):=(Mono.laid m5.trk hl).freeze hl ⟨_,ag0⟩
    have m36:=m35.trans m6
    have hd6:=m36.ext _ _ hd2
    have hq6:=m36.ext _ _ hq2
    have hl6:upd H5 l (.lst zs) l=some (.lst zs):=ag0
    have nd6:¬(F5 d\/ d=l):=λz=>(m36.new d z).elim nd' λz=>by rw [hd2] at z; cases z
    have nq6:¬(F5 qa\/ qa=l):=λz=>(m36.new qa z).elim nq' λz=>by rw [hq2] at z; cases z
    have rz6:Rps (λb=>F5 b\/ b=l) (upd H5 l (.lst zs)) zs (cQ0 p st):=rz.keep m6.keep
    have rx6:=rx2.keep m36.keep
    have told6:=told2.keep m36.keep
    have rq6:=rq2.keep m36.keep
    have c6:=c2.trans m36.chg
    have tk6:=m36.trk
    have fl:(λb=>F5 b\/ b=l) l:=.inr rfl
    generalize upd H5 l (.lst zs)=H6 at m6 m36 hd6 hq6 hl6 rz6 rx6 told6 rq6 c6 tk6 ⊢
    have kb6:KeyAt H6 b (keyS st):=kb.keeps λb xs e=>m36.ext _ _ e
    have lk:kvs.length=ds.length:=Paired.length told6
    refine⟨_,rfl,_,rfl,d,_,rfl,DPut.t hd6 kb6 (by rw [Ae1]; omega),?_⟩
    rw [dW0 _ vn]
    have w7:Chg [d,qa] (λb=>F5 b\/ b=l) H6 (λb=>F5 b\/ b=l) (upd H6 d (.dT (kvs++ [(keyS st,.ref l)]))):=.write tk6 (.head _) (by rw [hd6]; exact nofun)
    have k7:=w7.keep (lo1 nd6 nq6 hd6 hq6)
    have hd7:upd H6 d (.dT (kvs++ [(keyS st,.ref l)])) d=_:=ag0
    have hq7:=(aj0 (o:=.dT (kvs++ [(keyS st,.ref l)])) dq.symm).trans hq6
    have ld:l≠d:=bp0 hl6 hd6 nofun
    have hl7:=(aj0 (o:=.dT (kvs++ [(keyS st,.ref l)])) ld).trans hl6
    have rz7:=rz6.keep k7
    have told7:ToldF p (λb=>F5 b\/ b=l) (upd H6 d (.dT (kvs++ [(keyS st,.ref l)]))) (kvs++ [(keyS st,.ref l)]) (ds++ [st]):=Paired.snoc (told6.keep k7) ⟨rfl,.lst fl hl7 rz7⟩
    have rq7:=rq6.keep k7
    have kb7:KeyAt (upd H6 d (.dT (kvs++ [(keyS st,.ref l)]))) b (keyS st):=kb6.keeps λb xs e=>k7.tup _ _ e
    have c7:=c6.trans w7
    have g7:=DGet.t (k:=keyS st) hd7 kb7
    rw [dE0 _ _ _ _ vn,if_pos rfl] at g7
    generalize upd H6 d (.dT (kvs++ [(keyS st,.ref l)]))=H7 at w7 k7 hd7 hq7 hl7 rz7 told7 rq7 kb7 c7 g7 ⊢
    have lz:(cQ0 p st).length=(mayM p st).length:=by unfold cQ0; rw [Aa1]
    refine⟨_,rfl,.inl ⟨rfl,q0,SqL.of hq7⟩,pg0 (mw0 ⟨_,rfl,_,rfl,d,.ref l,rfl,g7,l,rfl,⟨zs,SqL.of hl7⟩,ei0 (F:=(λb=>F5 b\/ b=l)) (us:=(mayM p st).map λr=>as0 (an0 p st r)) (bT0 fl hl7 rz7) w7.trk (by omega) (by rw [Aa1,lz]) ?_ ?_⟩)⟩
    ·intro j tj uj F8 H8 x8 R hj hu m8 r8 k8
     unfold cQ0 at hj
     cases er:(mayM p st)[j]? with
     |none=>rw [Ab0,er] at hj; cases hj
     |some r=>
      rw [Ab0,er] at hj hu
      cases hj; cases hu
      cases r8 with
      |tup h8 r8=>
       obtain⟨y1,y2,rfl,q1,q2⟩:=r8.two
       exact⟨rfl,_,rfl,_,_,1,y2,rfl,rfl,SqT.of h8,atI1 rfl,k8 F8 _ _ (.refl m8.trk) q2⟩
    ·intro F8 H8 b2 ws2 m8 hb2 rw2
     have m9:Mono F8 H8 F8 (upd H8 b2 (.lst ws2)):=.laid m8.trk hb2
     have m89:=m8.trans m9
     have hq9:=m89.ext _ _ hq7
     have hd9:=m89.ext _ _ hd7
     have lw2:ws2.length=(mayM p st).length:=by rw [rw2.length,Aa1]
     have lq0:q0.length=w0.length:=by rw [rq0.length,Aa1]
     have nw:(ds++ [st]).Nodup:=Al4.mpr ⟨i1,Ae8.mpr ⟨nofun,Ag6⟩,λa ha b hb e=>by rw [Aa6.mp hb] at e; exact hin (e▸ha)⟩
     have rw':∀s∈ds++ [st],Reach p s:=λs hs=>by
      rcases Ad8.mp hs with hs|hs
      ·exact i2 s hs
      ·rw [Aa6.mp hs]; exact rst
     have few2:=bz0 hp nw rw'
     have ld1:(ds++ [st]).length=ds.length+1:=by rw [Aa5]; rfl
     refine⟨qa,b2,q0,ws2,rfl,rfl,hq9,ag0,by rw [Ae1]; omega,?_⟩
     have nd8:¬F8 d:=λz=>(m8.new d z).elim nd6 λz=>by rw [hd7] at z; cases z
     have nq8:¬F8 qa:=λz=>(m8.new qa z).elim nq6 λz=>by rw [hq7] at z; cases z
     have w10:Chg [d,qa] F8 (upd H8 b2 (.lst ws2)) F8 (upd (upd H8 b2 (.lst ws2)) qa (.lst (q0++ws2))):=.write m9.trk (by simp) (by rw [hq9]; exact nofun)
     have k10:=w10.keep (lo1 nd8 nq8 hd9 hq9)
     have lm:((mayM p st).map λr=>an0 p st r).length=(mayM p st).length:=Aa1 _
     refine⟨(1300 - (ds++ [st]).length)*126+(w0++(mayM p st).map λr=>an0 p st r).length,by rw [Aa5 (as:=w0),lm,lw]; omega,F8,_,q0++ws2,ds++ [st],w0++(mayM p st).map λr=>an0 p st r,_,rfl,(c7.trans m89.chg).trans w10,nd8,nq8,(aj0 dq).trans hd9,ag0,(told7.keep m89.keep).keep k10,?_,nw,rw',λs hs=> ?_,λs hs r hr=> ?_,?_,by rw [Aa5 (as:=w0),lm]; omega,rfl⟩
     ·rw [Ac3]
      refine((rq7.keep m89.keep).keep k10).append ?_
      rw [Ad2]
      exact(rw2.keep m9.keep).keep k10
     ·rcases Ad8.mp hs with hs|hs
      ·exact i3 s (Ag2 _ hs)
      ·obtain⟨r,hr,rfl⟩:=Ac0.mp hs
       exact .step rst hr
     ·rcases Ad8.mp hs with hs|hs
      ·rcases i4 s hs r hr with z|z
       ·exact .inl (Ag2 _ z)
       ·rcases Ad8.mp z with z|z
        ·exact .inr (Ag2 _ z)
        ·exact .inl (Ac1 _ z)
      ·rw [Aa6.mp hs] at hr ⊢
       exact .inr (Ac1 _ (Ac0.mpr ⟨r,hr,rfl⟩))
     ·rcases i5 with z|z
      ·exact .inl (Ag2 _ z)
      ·rcases Ad8.mp z with z|z
       ·exact .inr (Ag2 _ z)
       ·exact .inl (Ac1 _ z)
end
structure TAd where
 tdx:Addr
 w:Addr
 ea:Addr
 pa:Addr
 ya:Addr
 A:WAd
abbrev TAd.L (B:TAd):List Addr:=B.ea::B.pa::B.ya::B.A.L
def cB0 (E:List (Nat × Nat)):List (Key × V):=E.map λx=>(Sum.inl (x.1:Int),V.int x.2)
def cx0 (ps:List Nat):List V:=ps.map λ(n:Nat)=>V.int (n:Int)
structure TrailAt (C CW CT:Addr)(p:Plot)(F:Addr->Prop)(H:Hp)(t:Addr)(B:TAd)(W:WebM)(E:List (Nat × Nat))(ps:List Nat)(ys:List (List Nat)):Prop where
 ins:H t=some (.ins CT B.tdx [("web",.ref B.w),("ends",.ref B.ea),("passed",.ref B.pa),("years",.ref B.ya)])
 web:WebAt C CW p F H B.w B.A W
 ends:H B.ea=some (.dK (cB0 E))
 pas:H B.pa=some (.lst (cx0 ps))
 yrs:∃xs,H B.ya=some (.lst xs)/\Rps F H xs (ys.map rowT)
 free:∀a∈ [t,B.ea,B.pa,B.ya],¬F a
 py:B.pa≠B.ya
 em:B.ea≠B.A.ma
 ps_:B.pa≠B.A.sa/\B.pa≠B.A.ca
 ys_:B.ya≠B.A.sa/\B.ya≠B.A.ca
section
variable {C CW CT:Addr}{p:Plot}{F F':Addr->Prop}{H H':Hp}{t:Addr}{B:TAd}{W W':WebM}{E:List (Nat × Nat)}{ps:List Nat}{ys:List (List Nat)}{L:List Addr}
theorem TrailAt.there (h:TrailAt C CW CT p F H t B W E ps ys):∀a∈ [t,B.ea,B.pa,B.ya],∃o,H a=some o/\∀xs,o≠ .tup xs:=λa ha=>by
 obtain⟨xs,h1,_⟩:=h.yrs
 simp only [Ab2,Ad0,Ah8] at ha
 rcases ha with rfl|rfl|rfl|rfl
 ·exact⟨_,h.ins,λ_ z=>nomatch z⟩
 ·exact⟨_,h.ends,λ_ z=>nomatch z⟩
 ·exact⟨_,h.pas,λ_ z=>nomatch z⟩
 ·exact⟨_,h1,λ_ z=>nomatch z⟩
theorem TrailAt.apart (h:TrailAt C CW CT p F H t B W E ps ys):∀a∈ [t,B.ea,B.pa,B.ya],a∉ [B.w,B.A.sa,B.A.na,B.A.ca,B.A.ma]:=λa ha z=>by
 obtain⟨xs,y1,_⟩:=h.yrs
 obtain⟨x1,s1,_⟩:=h.web.sts
 obtain⟨x2,c1,_⟩:=h.web.came
 obtain⟨x3,m1,_⟩:=h.web.mov
 have n1:=h.web.num
 have i1:=h.web.ins
 have i0:=h.ins
 have e0:=h.ends
 have p0:=h.pas
 simp only [Ab2,Ad0,Ah8] at ha z
 rcases ha with rfl|rfl|rfl|rfl<;>rcases z with z|z|z|z|z
 ·rw [z,i1] at i0
  have:=(HO.ins.inj (Option.some.inj i0)).2.2
  exact absurd (congrArg List.length this) (by simp)
 ·rw [z,s1] at i0; cases i0
 ·rw [z,n1] at i0; cases i0
 ·rw [z,c1] at i0; cases i0
 ·rw [z,m1] at i0; cases i0
 ·rw [z,i1] at e0; cases e0
 ·rw [z,s1] at e0; cases e0
 ·rw [z,n1] at e0; cases e0
 ·rw [z,c1] at e0; cases e0
 ·exact h.em z
 ·rw [z,i1] at p0; cases p0
 ·exact h.ps_.1 z
 ·rw [z,n1] at p0; cases p0
 ·exact h.ps_.2 z
 ·rw [z,m1] at p0; cases p0
 ·rw [z,i1] at y1; cases y1
 ·exact h.ys_.1 z
 ·rw [z,n1] at y1; cases y1
 ·exact h.ys_.2 z
 ·rw [z,m1] at y1; cases y1
theorem TrailAt.loose (h:TrailAt C CW CT p F H t B W E ps ys):dF0 B.L F H:=λa ha=>by
 have:a∈ [t,B.ea,B.pa,B.ya]\/ a∈B.A.L:=by
  simp only [Ab2] at ha ⊢
  rcases ha with z|z|z|z
  ·exact .inl (.inr (.inl z))
  ·exact .inl (.inr (.inr (.inl z)))
  ·exact .inl (.inr (.inr (.inr (.inl z))))
  ·exact .inr z
 rcases this with z|z
 ·obtain⟨o,e,n⟩:=h.there a z
  exact⟨h.free a z,λxs q=>by rw [e] at q; exact n xs (Option.some.inj q)⟩
 ·exact h.web.loose a z
theorem TrailAt.webs (h:TrailAt C CW CT p F H t B W E ps ys)(c:Chg B.A.L F H F' H')(w:WebAt C CW p F' H' B.w B.A W'):TrailAt C CW CT p F' H' t B W' E ps ys:=by
 have k:=c.keep h.web.loose
 have out:∀a∈ [t,B.ea,B.pa,B.ya],a∉B.A.L:=λa ha z=>h.apart a ha (.tail _ z)
 obtain⟨xs,y1,r1⟩:=h.yrs
 refine⟨c.ext _ _ (out _ (by simp)) h.ins,w,c.ext _ _ (out _ (by simp)) h.ends,c.ext _ _ (out _ (by simp)) h.pas,⟨xs,c.ext _ _ (out _ (by simp)) y1,r1.keep k⟩,λa ha=> ?_,h.py,h.em,h.ps_,h.ys_⟩
 obtain⟨o,e,_⟩:=h.there a ha
 exact c.free (h.free a ha) (by rw [e]; exact nofun)
theorem TrailAt.mono (h:TrailAt C CW CT p F H t B W E ps ys)(m:Mono F H F' H'):TrailAt C CW CT p F' H' t B W E ps ys:=h.webs m.chg (h.web.mono m)
end
def mvV:Option Nat->V
 |none=> .non
 |some m=> .int (m:Int)
def da0 (E:List (Nat × Nat))(k n:Nat)(mo:Option Nat):Bool:=match E.lookup n with
 |none=>true
 |some h=>match mo with
  |none=>false
  |some m=>decide (m<=k+1+h)
theorem df0 (n:Nat):∀E:List (Nat × Nat),valV (cB0 E) (Sum.inl (n:Int))=(E.lookup n).map λh=>V.int (h:Int)
 | []=>rfl
 | (k,h)::E=>by
  have ih:=df0 n E
  unfold cB0 at ih ⊢
  rw [Ac2,Ac5]
  by_cases e:n=k
  ·subst e
   rw [bg0 (p:=(Sum.inl (n:Int),V.int h)) rfl,Ah7]
   rfl
  ·rw [bc0 (p:=(Sum.inl (k:Int),V.int h)) (λz=>e (by have:=Sum.inl.inj z; omega)),ih,show (n==k)=false from beq_eq_false_iff_ne.mpr e]
section
variable (C CW CT:Addr)(p:Plot)
def iU0:Sp:=λvs H Q _=>∃F t B W E ps n ys,vs=[.ref t]/\Trk F H/\TrailAt C CW CT p F H t B W E (ps++ [n]) ys/\Q (.int (n:Nat)) H
def rh0:Sp:=λvs H Q _=>∃F t B W E ps ys n mo,vs=[.ref t,.int (n:Nat),mvV mo]/\Trk F H/\TrailAt C CW CT p F H t B W E ps ys/\Q (.bl (da0 E ys.length n mo)) H
end
theorem pX0 (xs:List V)(x:V):atI (xs++ [x]) (-1)=some x:=by
 unfold atI ixN
 rw [if_neg (by omega),if_pos (by rw [Aa5,Ab5]; omega)]
 have e:(-1+((xs++ [x]).length:Int)).toNat=xs.length:=by rw [Aa5,Ab5]; omega
 rw [e,Aa2,Ab9 (Ab1 _),Aj1]
 rfl
variable {P:Program}{w:World}{K:Aa3}{mg:Str->Option Value}{base:Heap}{C CWeb CTrail f:Addr}{fd:FuncData}{p:Plot}
section
theorem ks0 (Fn:Fun K "last" "Trail.last" Xe0 f fd) (T:TxtTrail K CTrail):FnOk P w K mg base CX0 1 f fd j6 (iU0 C CWeb CTrail p):=by
 have sc:=xm0
 refine Fn.ok sc (λvs H Q E h=> ?_) λcdv Ar outer s H vs Q E' hr h=> ?_
 ·obtain⟨F,t,B,W,E,ps,n,ys,rfl,_⟩:=h; rfl
 obtain⟨F,t,B,W,E,ps,n,ys,rfl,tk,hT,q⟩:=h
 refine⟨_,aw0 (aW0 (gy0 ix_list (aR0 (pv 0) rfl) (pe_un oO0 cC0) (λ_ _=>rfl))),?_⟩
 refine⟨_,rfl,_,_,_,_,_,rfl,hT.ins,T.cl,T.V3,rfl,⟨1,rfl,_,_,-1,_,rfl,rfl,SqL.of hT.pas,?_,q⟩⟩
 unfold cx0
 rw [Ac3]
 exact pX0 _ _
theorem ws0 (Fn:Fun K "is_worth_trying" "Trail.is_worth_trying" qf0 f fd) (T0:Txt K mg C CWeb) (T:TxtTrail K CTrail):FnOk P w K mg base CX0 1 f fd q9 (rh0 C CWeb CTrail p):=by
 have sc:=Zm0
 refine Fn.ok sc (λvs H Q E h=> ?_) λcdv Ar outer s H vs Q E' hr h=> ?_
 ·obtain⟨F,t,B,W,E,ps,ys,n,mo,rfl,_⟩:=h; rfl
 obtain⟨F,t,B,W,E,ps,ys,n,mo,rfl,tk,hT,q⟩:=h
 refine⟨_,am0 (cM0 (dL0 (cS0 (ce0 hr) (pv 1) (aR0 (pv 0) rfl)) rfl) (aw0 (aW0 ew0)) bq0)
  (aw0 (aW0 (iH0 (lF0 (ie0 (pv 2))) (jS0 (hS0 op_ge (kV0 gT0 (kV0 gT0 (bV0 bX0 (by rfl) T0.x0 Al6 (ao0 (aR0 (pv 0) rfl) ax0)) cC0) (cF0 (ce0 hr) (aR0 (pv 0) rfl) (pv 1) (λ_ _=>rfl))) (pv 2) (cZ0 _)))))),?_⟩
 have hv:=df0 n E
 refine⟨_,rfl,_,rfl,_,_,_,_,_,rfl,hT.ins,T.cl,T.W3,rfl,⟨B.ea,_,rfl,DGet.k (k:=.inl (n:Int)) hT.ends,_,rfl,?_⟩⟩
 rw [hv]
 unfold da0 at q
 cases e:E.lookup n with
 |none=>
  rw [e] at q
  exact iteT q
 |some h=>
  rw [e] at q hv
  obtain⟨xs,hy,ry⟩:=hT.yrs
  have lx:xs.length=ys.length:=by rw [ry.length,Aa1]
  refine iteF ⟨_,rfl,_,rfl,?_⟩
  cases mo with
  |none=>exact iteF q
  |some m=>
   refine iteT ?_
   refine⟨_,rfl,_,_,_,_,_,rfl,hT.ins,T.cl,T.Q1,rfl,⟨_,xs,rfl,.inl (SqL.of hy),_,_,rfl,rfl,?_⟩⟩
   refine⟨_,rfl,_,_,_,_,_,rfl,hT.ins,T.cl,T.W3,rfl,⟨_,rfl,B.ea,.int (h:Nat),rfl,?_,_,_,rfl,rfl,⟨_,rfl,_,_,rfl,rfl,?_⟩⟩⟩
   ·have:=DGet.k (k:=Sum.inl (n:Int)) hT.ends
    rw [hv] at this
    exact this
   ·rw [lx]
    have e2:decide ((m:Int)<=(ys.length:Int)+1+(h:Int))=decide (m<=ys.length+1+h):=by
     by_cases z:m<=ys.length+1+h
     ·rw [Ad9 z,Ad9 (by omega)]
     ·rw [Ad3 z,Ad3 (by omega)]
    show Q (.bl (decide ((m:Int)<=(ys.length:Int)+1+(h:Int)))) H
    rw [e2]
    exact q
end
section
variable (C CW CT:Addr)(p:Plot)
def spMv:Sp:=λvs H Q _=>∃F w A W n s,vs=[.ref w,.int (n:Nat)]/\Trk F H/\WebAt C CW p F H w A W/\WOk p W/\W.sts[n]?=some s/\
 ∀F' H' W' ms v,Chg A.L F H F' H'->WebAt C CW p F' H' w A W'->WOk p W'->W.sts<+:W'.sts->W'.mov.lookup n=some ms->(∀k x,W.mov.lookup k=some x->W'.mov.lookup k=some x)->Rp F' H' v (eM0 ms)->Q v H'
def iX0:Sp:=λvs H Q _=>∃F t B W E ps n ys mo s,vs=[.ref t,mvV mo]/\Trk F H/\TrailAt C CW CT p F H t B W E (ps++ [n]) ys/\WOk p W/\W.sts[n]?=some s/\ps.length<100000/\ys.length<100000/\
 (∀F' H' W' pre r k post,Chg B.L F H F' H'->TrailAt C CW CT p F' H' t B W' E (ps++ [n]++ [k]) (ys++ [r])->WOk p W'->W.sts<+:W'.sts->Moves p W'.sts s (pre++(r,k)::post)->(∀x∈pre,da0 E ys.length x.2 mo=false)->da0 E ys.length k mo=true->Q (.bl true) H')/\
 ∀F' H' W' ms,Chg B.L F H F' H'->TrailAt C CW CT p F' H' t B W' E (ps++ [n]) ys->WOk p W'->W.sts<+:W'.sts->W'.mov.lookup n=some ms->Moves p W'.sts s ms->(∀x∈ms,da0 E ys.length x.2 mo=false)->Q (.bl false) H'
end
theorem mv_of {P:Program}{w:World}{K:Aa3}{mg:Str->Option Value}{base:Heap}{C CW:Addr}{p:Plot}{k:Nat}{x:Str}{ps:List Str}(h:SpOk P w K mg base CW k x ps (nC0 C CW p)):SpOk P w K mg base CW k x ps (spMv C CW p):=by
 obtain⟨f,fd,F,M,B⟩:=h
 refine⟨f,fd,F.imp λvs H Q E h=> ?_,M,B⟩
 obtain⟨F,w,A,W,n,s,rfl,tk,hW,ok,hn,q⟩:=h
 refine⟨F,w,A,W,n,s,rfl,tk,hW,ok,hn,λms v e rv=>q F H W ms v (Mono.refl tk).chg hW ok (Aq0 _) e (λ_ _ h=>h) rv,λe F' H' W' ms v c hW' ok' pr em rv=>q F' H' W' ms v c hW' ok' pr ?_ (λk x h=> ?_) rv⟩
 ·rw [em,cG0,e,Ar8,Ac5,Ah7]
 ·rw [em,cG0,h]; rfl
theorem TrailAt.push {C CW CT:Addr}{p:Plot}{F:Addr->Prop}{H:Hp}{t:Addr}{B:TAd}{W:WebM}{E:List (Nat × Nat)}{ps:List Nat}{ys:List (List Nat)}(h:TrailAt C CW CT p F H t B W E ps ys)(tk:Trk F H){xs:List V}{x:V}{r:List Nat}{k:Nat}(hy:H B.ya=some (.lst xs))(ry:Rps F H xs (ys.map rowT))(rx:Rp F H x (rowT r)):
  Chg B.L F H F (upd (upd H B.ya (.lst (xs++ [x]))) B.pa (.lst (cx0 ps++ [.int (k:Int)])))/\TrailAt C CW CT p F (upd (upd H B.ya (.lst (xs++ [x]))) B.pa (.lst (cx0 ps++ [.int (k:Int)]))) t B W E (ps++ [k]) (ys++ [r]):=by
 have n1:t≠B.ya:=bp0 h.ins hy nofun
 have n2:t≠B.pa:=bp0 h.ins h.pas nofun
 have n3:B.ea≠B.ya:=bp0 h.ends hy nofun
 have n4:B.ea≠B.pa:=bp0 h.ends h.pas nofun
 have wr:∀{L:List Addr},B.ya∈L->B.pa∈L->Chg L F H F (upd (upd H B.ya (.lst (xs++ [x]))) B.pa (.lst (cx0 ps++ [.int (k:Int)]))):=λa b=>by
  have z1:Chg _ F H F (upd H B.ya (.lst (xs++ [x]))):=.write tk a (by rw [hy]; exact nofun)
  exact z1.trans (.write z1.trk b (z1.there _ (by rw [h.pas]; exact nofun)))
 have z2:Chg [B.ya,B.pa] F H F _:=wr (by simp) (by simp)
 have lo:dF0 [B.ya,B.pa] F H:=λa ha=>h.loose a (by simp only [Ab2,Ad0,Ah8] at ha; rcases ha with rfl|rfl<;>simp)
 have k2:=z2.keep lo
 refine⟨wr (by simp) (by simp),?_,h.web.keep z2 lo λa ha z=> ?_,?_,?_,⟨xs++ [x],?_,?_⟩,h.free,h.py,h.em,h.ps_,h.ys_⟩
 ·rw [aj0 n2,aj0 n1]; exact h.ins
 ·simp only [Ab2,Ad0,Ah8] at z
  rcases z with rfl|rfl
  ·exact h.apart _ (by simp) ha
  ·exact h.apart _ (by simp) ha
 ·rw [aj0 n4,aj0 n3]; exact h.ends
 ·rw [ag0]
  unfold cx0
  rw [Ac3]
  rfl
 ·rw [aj0 h.py.symm]; exact ag0
 ·rw [Ac3]; exact(ry.keep k2).append (.cons (rx.keep k2) .nil)
section
theorem vs0 (Fn:Fun K "step" "Trail.step" zf0 f fd) (T0:Txt K mg C CWeb) (T:TxtTrail K CTrail) (hp:Tight p) (D1:SpOk P w K mg base CWeb 5 "moves_of" Y5 (spMv C CWeb p)) (D2:SpOk P w K mg base CTrail 1 "last" j6 (iU0 C CWeb CTrail p)) (D3:SpOk P w K mg base CTrail 1 "is_worth_trying" q9 (rh0 C CWeb CTrail p)):
  FnOk P w K mg base CX0 6 f fd w6 (iX0 C CWeb CTrail p):=by
 have sc:=hm0
 refine Fn.ok sc (λvs H Q E h=> ?_) λcdv Ar outer s H vs Q E' hr h=> ?_
 ·obtain⟨F,t,B,W,E,ps,n,ys,mo,s,rfl,_⟩:=h; rfl
 obtain⟨F,t,B,W,E,ps,n,ys,mo,st,rfl,tk,hT,ok,hn,lp,ly,q1,q2⟩:=h
 obtain⟨f1,d1,F1,M1,B1⟩:=D1
 obtain⟨f2,d2,F2,M2,B2⟩:=D2
 obtain⟨f3,d3,F3,M3,B3⟩:=D3
 refine⟨_,am0 (fL0 PassesOwn.never rfl (dy0 (bH0 (aR0 (pv 0) rfl) T0.cl_Web M1 F1 hr.mono B1 .nil bf0 (ao0 (ci0 (pv 0) T.cl M2 F2 hr.mono B2 .nil bf0) ax0)))
   (eS0 rfl (bn0 (at0 (i:=2) sc.nd rfl (Or.inl rfl)) (bn0 (at0 (i:=3) sc.nd rfl (Or.inl rfl)) dB0)))
   (aw0 (cM0 (fB0 (bH0 (pv 0) T.cl M3 F3 hr.mono B3 .nil bf0 (ao0 (pv 3) (ao0 (pv 1) ax0))))
    (am0 (bB0 (fw0 Ae0 Ai2 Ai3 cl0 (aR0 (pv 0) rfl) (ao0 (pv 2) ax0)))
    (am0 (bB0 (fw0 Ae0 Ai2 Ai3 cl0 (aR0 (pv 0) rfl) (ao0 (pv 3) ax0)))
    (aw0 (aW0 ew0)))) bq0)))
  (aw0 (aW0 ew0)),?_⟩
 refine⟨_,rfl,_,_,_,_,_,rfl,hT.ins,T.cl,T.Kf0,rfl,B.w,B.A.dx,_,rfl,hT.web.ins,rfl,⟨_,rfl,t,B.tdx,_,rfl,hT.ins,rfl,F,t,B,W,E,ps,n,ys,rfl,tk,hT,F,B.w,B.A,W,n,st,rfl,tk,hT.web,ok,hn,λFa Ha Wa ms v ca hWa oka pra ema _ rv=> ?_⟩⟩
 have hTa:=hT.webs ca hWa
 obtain⟨st',e1,mv⟩:=oka.mv _ (jR0 ema)
 have e1:Wa.sts[n]?=some st':=e1
 rw [aS0 pra hn] at e1
 cases e1
 obtain⟨a,xs,rfl,fa,ha,rxs⟩:∃a xs,v=.ref a/\Fa a/\Ha a=some (.lst xs)/\Rps Fa Ha xs (ms.map kP0):=by
  cases rv with|lst f h r=>exact⟨_,_,rfl,f,h,r⟩
 have caL:Chg B.L F H Fa Ha:=ca.mono λa h=> .tail _ (.tail _ (.tail _ h))
 refine⟨a,rfl,⟨xs,SqL.of ha⟩,gz0 (bT0 fa ha rxs) (λi F' σ H'=>Mono Fa Ha F' H'/\(∃y z,σ=[some (.ref t),some (mvV mo),y,z])/\∀x∈ms.take i,da0 E ys.length x.2 mo=false) ?_ ?_ ?_ ?_⟩
 ·rintro i F' σ H' ⟨m,_⟩
  exact⟨m.keep,m.trk⟩
 ·exact⟨.refl ca.trk,⟨none,none,rfl⟩,λx hx=>by rw [Al5] at hx; exact nomatch hx⟩
 ·rintro i tr F2 σ H2 F3 H3 v hi ⟨m2,⟨y,z,rfl⟩,nw⟩ m3 rv
  cases em:ms[i]? with
  |none=>rw [Ab0,em] at hi; cases hi
  |some mm=>
   rw [Ab0,em] at hi
   cases hi
   have m23:=m2.trans m3
   have hT3:=hTa.mono m23
   cases rv with
   |tup h5 r5=>
    obtain⟨x1,x2,rfl,p1,p2⟩:=r5.two
    cases p2
    refine⟨_,_,rfl,SqT.of h5,rfl,_,_,rfl,_,_,rfl,rfl,?_⟩
    refine⟨_,rfl,t,B.tdx,_,rfl,hT3.ins,rfl,_,rfl,_,rfl,F3,t,B,Wa,E,ps++ [n],ys,mm.2,mo,rfl,m23.trk,hT3,_,rfl,?_⟩
    cases hw:da0 E ys.length mm.2 mo with
    |true=>
     refine iteT ?_
     obtain⟨zs,hy,ry⟩:=hT3.yrs
     have lz:zs.length=ys.length:=by rw [ry.length,Aa1]
     have n1:t≠B.ya:=bp0 hT3.ins hy nofun
     refine⟨_,rfl,_,_,_,_,_,rfl,hT3.ins,T.cl,T.Q1,rfl,⟨.inl ⟨rfl,zs,SqL.of hy⟩,_,rfl,B.ya,zs,_,rfl,rfl,hy,by rw [Ae1]; omega,?_⟩⟩
     have hp3:=(aj0 (o:=.lst (zs++ [x1])) hT3.py).trans hT3.pas
     have ln:(cx0 (ps++ [n])).length=ps.length+1:=by unfold cx0; rw [Aa1,Aa5]; rfl
     refine⟨_,rfl,_,_,_,_,_,rfl,(aj0 n1).trans hT3.ins,T.cl,T.V3,rfl,⟨.inl ⟨rfl,_,SqL.of hp3⟩,_,rfl,B.pa,_,_,rfl,rfl,hp3,by rw [Ae1]; omega,?_⟩⟩
     obtain⟨z1,hT4⟩:=hT3.push m23.trk (k:=mm.2) hy ry p1
     have hi':i<ms.length:=(Aa9.mp em).1
     have e3:ms=ms.take i++(mm.1,mm.2)::ms.drop (i+1):=by
      have:ms[i]=mm:=by rw [Aa4 hi'] at em; exact Option.some.inj em
      rw [show (mm.1,mm.2)=ms[i] from this.symm,<- Aj8 hi']
      exact(List.take_append_drop i ms).symm
     exact q1 F3 _ Wa (ms.take i) mm.1 mm.2 (ms.drop (i+1)) ((caL.trans m23.chg).trans z1) hT4 oka pra (by rw [<- e3]; exact mv) nw hw
    |false=>
     refine iteF ⟨F3,m23,⟨_,_,rfl⟩,λx hx=> ?_⟩
     rw [Ag9,em] at hx
     rcases Ad8.mp hx with hx|hx
     ·exact nw x hx
     ·rw [show x=mm from by simpa using hx]
      exact hw
 ·rintro F2 σ H2 ⟨m2,⟨y,z,rfl⟩,nw⟩
  rw [Aa1,Ae7] at nw
  exact q2 F2 H2 Wa ms (caL.trans m2.chg) (hTa.mono m2) oka pra ema mv nw
end
def endN (E:List (Nat × Nat))(ms:List (List Nat × Nat)):List Int:=ms.map λx=>(((E.lookup x.2).getD 0+1:Nat):Int)
theorem pb0 {E:List (Nat × Nat)}:∀{ms:List (List Nat × Nat)},(∀x∈ms,∃k,E.lookup x.2=some k)->∃h:Nat,EndIs E ms h/\maxD (.int 0) (endN E ms)=.int (h:Int)
 | [],_=>⟨0,⟨λ_ z=>(nomatch z),.inl ⟨rfl,rfl⟩⟩,rfl⟩
 |m::ms,hall=>by
  have em:∀x∈m::ms,∀k,E.lookup x.2=some k->((k+1:Nat):Int)∈endN E (m::ms):=λx hx k hk=>Ac0.mpr ⟨x,hx,by rw [hk]; rfl⟩
  have h1:=ga0 (endN E ms) (((E.lookup m.2).getD 0+1:Nat):Int)
  have h2:=ib0 (endN E ms) (((E.lookup m.2).getD 0+1:Nat):Int)
  obtain⟨x,hx,e⟩:=Ac0.mp (show _∈endN E (m::ms) from h1)
  obtain⟨k,hk⟩:=hall x hx
  rw [hk] at e
  have e:((k+1:Nat):Int)=_:=e
  refine⟨k+1,⟨λy hy j hj=> ?_,.inr ⟨x,hx,k,hk,rfl⟩⟩,?_⟩
  ·have:=h2 _ (em y hy j hj)
   rw [<- e] at this
   omega
  ·exact congrArg V.int e.symm
section
variable {C CW CT:Addr}{p:Plot}{F:Addr->Prop}{H:Hp}{t:Addr}{B:TAd}{W:WebM}{E E':List (Nat × Nat)}{ps ps':List Nat}{ys ys':List (List Nat)}
theorem TrailAt.off (h:TrailAt C CW CT p F H t B W E ps ys)(ha:a∈ [B.ea,B.pa,B.ya])(tk:Trk F H)(o:HO):Chg B.L F H F (upd H a o)/\Keep F H F (upd H a o)/\WebAt C CW p F (upd H a o) B.w B.A W:=by
 have hm:a∈ [t,B.ea,B.pa,B.ya]:=.tail _ ha
 obtain⟨o',e,n⟩:=h.there a hm
 have hh:H a≠none:=by rw [e]; exact nofun
 have z2:Chg [a] F H F (upd H a o):=.write tk (.head _) hh
 have lo:dF0 [a] F H:=λb hb=>by
  rw [Aa6.mp hb]
  exact⟨h.free a hm,λxs q=>by rw [e] at q; exact n xs (Option.some.inj q)⟩
 refine⟨.write tk ?_ hh,z2.keep lo,h.web.keep z2 lo λb hb z=> ?_⟩
 ·simp only [Ab2,Ad0,Ah8] at ha ⊢
  rcases ha with z|z|z
  ·exact .inl z
  ·exact .inr (.inl z)
  ·exact .inr (.inr (.inl z))
 ·rw [Aa6.mp z] at hb
  exact h.apart a hm hb
theorem TrailAt.setP (h:TrailAt C CW CT p F H t B W E ps ys)(tk:Trk F H)(ps':List Nat):Chg B.L F H F (upd H B.pa (.lst (cx0 ps')))/\TrailAt C CW CT p F (upd H B.pa (.lst (cx0 ps'))) t B W E ps' ys:=by
 obtain⟨c,k,w⟩:=h.off (a:=B.pa) (by simp) tk (.lst (cx0 ps'))
 obtain⟨xs,hy,ry⟩:=h.yrs
 exact⟨c,(aj0 (bp0 h.ins h.pas nofun)).trans h.ins,w,(aj0 (bp0 h.ends h.pas nofun)).trans h.ends,ag0,⟨xs,(aj0 h.py.symm).trans hy,ry.keep k⟩,h.free,h.py,h.em,h.ps_,h.ys_⟩
theorem TrailAt.setY (h:TrailAt C CW CT p F H t B W E ps ys)(tk:Trk F H)(r:Rps F H xs (ys'.map rowT)):Chg B.L F H F (upd H B.ya (.lst xs))/\TrailAt C CW CT p F (upd H B.ya (.lst xs)) t B W E ps ys':=by
 obtain⟨c,k,w⟩:=h.off (a:=B.ya) (by simp) tk (.lst xs)
 obtain⟨_,hy,ry⟩:=h.yrs
 exact⟨c,(aj0 (bp0 h.ins hy nofun)).trans h.ins,w,(aj0 (bp0 h.ends hy nofun)).trans h.ends,(aj0 h.py).trans h.pas,⟨xs,ag0,r.keep k⟩,h.free,h.py,h.em,h.ps_,h.ys_⟩
theorem TrailAt.setE (h:TrailAt C CW CT p F H t B W E ps ys)(tk:Trk F H)(E':List (Nat × Nat)):Chg B.L F H F (upd H B.ea (.dK (cB0 E')))/\TrailAt C CW CT p F (upd H B.ea (.dK (cB0 E'))) t B W E' ps ys:=by
 obtain⟨c,k,w⟩:=h.off (a:=B.ea) (by simp) tk (.dK (cB0 E'))
 obtain⟨xs,hy,ry⟩:=h.yrs
 exact⟨c,(aj0 (bp0 h.ins h.ends nofun)).trans h.ins,w,ag0,(aj0 (bp0 h.pas h.ends nofun)).trans h.pas,⟨xs,(aj0 (bp0 hy h.ends nofun)).trans hy,ry.keep k⟩,h.free,h.py,h.em,h.ps_,h.ys_⟩
end
section
variable (C CW CT:Addr)(p:Plot)
def jU0:Sp:=λvs H Q _=>∃F t B W E ps n ys ms s,vs=[.ref t]/\Trk F H/\TrailAt C CW CT p F H t B W E (ps++ [n]) ys/\WOk p W/\W.sts[n]?=some s/\W.mov.lookup n=some ms/\(∀x∈ms,∃k,E.lookup x.2=some k)/\E.lookup n=none/\E.length<100000/\ms.length<100000/\
 ∀F' H' h,Chg B.L F H F' H'->TrailAt C CW CT p F' H' t B W (E++ [(n,h)]) ps ys.dropLast->EndIs E ms h->Q .non H'
end
section
theorem ys0 (Fn:Fun K "turn_back" "Trail.turn_back" j9 f fd) (T0:Txt K mg C CWeb) (T:TxtTrail K CTrail) (D1:SpOk P w K mg base CWeb 5 "moves_of" Y5 (nC0 C CWeb p)):
  FnOk P w K mg base CX0 6 f fd y6 (jU0 C CWeb CTrail p):=by
 have sc:=Qm0
 refine Fn.ok sc (λvs H Q E h=> ?_) λcdv Ar outer s H vs Q E' hr h=> ?_
 ·obtain⟨F,t,B,W,E,ps,n,ys,ms,s,rfl,_⟩:=h; rfl
 obtain⟨F,t,B,W,E,ps,n,ys,ms,st,rfl,tk,hT,ok,hn,hm,hall,hE,lE,lm,q⟩:=h
 obtain⟨f1,d1,F1,M1,B1⟩:=D1
 refine⟨_,am0 (bA0 (i:=1) sc.nd rfl (Or.inl rfl) (lX0 Ae0 Aq3 Aq4 ll0 (aR0 (pv 0) rfl)))
  (am0 (bA0 (i:=2) sc.nd rfl (Or.inl rfl) (bH0 (aR0 (pv 0) rfl) T0.cl_Web M1 F1 hr.mono B1 .nil bf0 (ao0 (pv 1) ax0)))
  (am0 (cP0 (ce0 hr) (aR0 (pv 0) rfl) (pv 1) (pF0 rfl (by rfl) T0.V6
   (ej0 (g:=gTup K 2 (fx0 (cr0 0) (fx0 (cr0 1) gNil))) (te:=tOp (rI0 λi j=> .int (i+j)) (tDGet (tFld K (tVar 2) "ends") (tVar 1)) (tC (.int 1))) (own:=["planting", "later"]) rfl (cc0 jf0 (ad0 j9) rfl rfl (by decide +kernel))
    (dy0 (pv 2))
    (λ_ _ _ _=>eS0 rfl (bn0 (at0 (i:=0) (bM0 ((["planting", "later"]:List Str)++hide ["planting", "later"] jf0) rfl (by decide +kernel)) rfl (Or.inl rfl)) (bn0 (at0 (i:=1) (bM0 ((["planting", "later"]:List Str)++hide ["planting", "later"] jf0) rfl (by decide +kernel)) rfl (Or.inl rfl)) dB0))) (λ_ _ _ _=>gn0)
    (λ_ _ _ _=>kV0 gT0 (cF0 (ce0 hr) (aR0 (pv 2) rfl) (pv 1) (λ_ _=>rfl)) cC0))
   cC0) rfl)
  (aw0 (cM0 (eB0 (aR0 (pv 0) rfl) (λ_=>rfl)) (aw0 (bB0 (lX0 Ae0 Aq3 Aq4 ll0 (aR0 (pv 0) rfl)))) bq0)))),?_⟩
 have enl:cx0 (ps++ [n])=cx0 ps++ [.int (n:Int)]:=by unfold cx0; rw [Ac3]; rfl
 have hpa:=hT.pas
 rw [enl] at hpa
 refine⟨_,rfl,_,_,_,_,_,rfl,hT.ins,T.cl,T.V3,rfl,.inl ⟨rfl,_,SqL.of hpa⟩,B.pa,_,.int (n:Int),rfl,rfl,hpa,by simp,?_⟩
 rw [Ak2]
 obtain⟨c1,hT1⟩:=hT.setP tk ps
 have tk1:=c1.trk
 generalize upd H B.pa (.lst (cx0 ps))=H1 at*
 refine⟨_,rfl,_,_,_,_,_,rfl,hT1.ins,T.cl,T.Kf0,rfl,B.w,B.A.dx,_,rfl,hT1.web.ins,rfl,⟨_,rfl,F,B.w,B.A,W,n,st,rfl,tk1,hT1.web,ok,hn,λms' v e rv=> ?_,λe=>by rw [hm] at e; cases e⟩⟩
 rw [hm] at e
 cases e
 obtain⟨a,xs,rfl,fa,ha,rxs⟩:∃a xs,v=.ref a/\F a/\H1 a=some (.lst xs)/\Rps F H1 xs (ms.map kP0):=by
  cases rv with|lst f h r=>exact⟨_,_,rfl,f,h,r⟩
 dsimp only
 refine oe0 (gW0 (rH0 (mw0 ⟨_,rfl,a,rfl,⟨xs,SqL.of ha⟩,ei0 (us:=(endN E ms).map L2.BD.T.int) (bT0 fa ha rxs) tk1 (by rw [Aa1]; omega) (by unfold endN; rw [Aa1,Aa1,Aa1]) ?_ ?_⟩)))
 ·intro j tj uj F5 H5 x5 R hj hu m5 r5 k5
  cases er:ms[j]? with
  |none=>rw [Ab0,er] at hj; cases hj
  |some mm=>
   unfold endN at hu
   rw [Ab0,Ab0,er] at hu
   rw [Ab0,er] at hj
   cases hj; cases hu
   have hT5:=hT1.mono m5
   obtain⟨k,hk⟩:=hall mm (Ac7 er)
   cases r5 with
   |tup h5 r5=>
    obtain⟨x1,x2,rfl,p1,p2⟩:=r5.two
    cases p2
    refine⟨_,_,rfl,SqT.of h5,rfl,_,_,rfl,_,_,rfl,rfl,rfl,?_⟩
    have hv:=df0 mm.2 E
    rw [hk] at hv
    have g:=DGet.k (k:=Sum.inl (mm.2:Int)) hT5.ends
    rw [hv] at g
    refine⟨_,rfl,_,_,_,_,_,rfl,hT5.ins,T.cl,T.W3,rfl,_,rfl,B.ea,_,rfl,g,_,_,rfl,rfl,?_⟩
    refine k5 F5 _ H5 (.refl m5.trk) ?_
    have e9:((((E.lookup mm.2).getD 0+1:Nat)):Int)=(k:Int)+1:=by rw [hk]; rfl
    show Rp F5 H5 (V.int ((k:Int)+1)) (L2.BD.T.int ((((E.lookup mm.2).getD 0+1:Nat)):Int))
    rw [e9]
    exact .int _
 ·intro F5 H5 l zs m5 hl rz
  have ez:=gh0 rz
  subst ez
  have m6:Mono F5 H5 F5 (upd H5 l (.lst ((endN E ms).map V.int))):=.laid m5.trk hl
  have m16:=m5.trans m6
  have hT6:=hT1.mono m16
  have hl6:upd H5 l (.lst ((endN E ms).map V.int)) l=_:=ag0
  generalize upd H5 l (.lst ((endN E ms).map V.int))=H6 at*
  obtain⟨h,hh,em⟩:=pb0 hall
  refine⟨l,endN E ms,rfl,SqL.of hl6,?_⟩
  rw [em]
  refine⟨_,rfl,_,_,_,_,_,rfl,hT6.ins,T.cl,T.W3,rfl,_,rfl,B.ea,_,rfl,DPut.k (k:=Sum.inl (n:Int)) hT6.ends (by unfold cB0; rw [Aa1,Ae1]; omega),?_⟩
  have hv:=df0 n E
  rw [hE] at hv
  rw [dW0 _ hv]
  have ee:cB0 E++ [(Sum.inl (n:Int),V.int (h:Int))]=cB0 (E++ [(n,h)]):=by unfold cB0; rw [Ac3]; rfl
  rw [ee]
  obtain⟨c7,hT7⟩:=hT6.setE m16.trk (E++ [(n,h)])
  have c17:=(c1.trans m16.chg).trans c7
  generalize upd H6 B.ea (.dK (cB0 (E++ [(n,h)])))=H7 at*
  obtain⟨zs,hy,ry⟩:=hT7.yrs
  have lz:zs.length=ys.length:=by rw [ry.length,Aa1]
  refine⟨_,rfl,_,_,_,_,_,rfl,hT7.ins,T.cl,T.Q1,rfl, !zs.isEmpty,.inl ⟨zs,SqL.of hy,rfl⟩,?_⟩
  by_cases hne:zs=[]
  ·subst hne
   have:ys=[]:=Ae2 (by rw [<- lz]; rfl)
   subst this
   exact iteF (q F5 H7 h c17 hT7 hh)
  ·rw [show (!zs.isEmpty)=true by cases zs; exact absurd rfl hne; rfl]
   have hyn:ys≠ []:=λz=>hne (Ae2 (by rw [lz,z]; rfl))
   obtain⟨y0,r,rfl⟩:∃y0 r,ys=y0++ [r]:=⟨_,_,(Af0 hyn).symm⟩
   rw [Ac3] at ry
   obtain⟨z0,x,rfl,rz0,rx⟩:=gl0 _ ry
   refine iteT ⟨_,rfl,_,_,_,_,_,rfl,hT7.ins,T.cl,T.Q1,rfl,.inl ⟨rfl,_,SqL.of hy⟩,B.ya,_,x,rfl,rfl,hy,by simp,?_⟩
   rw [Ak2]
   obtain⟨c8,hT8⟩:=hT7.setY c17.trk rz0
   rw [Ak2] at q
   exact q F5 _ h (c17.trans c8) hT8 hh
end
section
variable (C CW CT:Addr)(p:Plot)
def gj0:Sp:=λvs H Q _=>∃F t dx w ea,∃fs:List (Str × V),vs=[.ref t]/\Trk F H/\H t=some (.ins CT dx (("web",w)::("ends",ea)::fs))/\(fs=[]\/ ∃x y,fs=([("passed",x),("years",y)]:List (Str × V)))/\¬F t/\
 ∀H' pa ya,Chg [t] F H F H'->H pa=none->H ya=none->pa≠ya->H' t=some (.ins CT dx [("web",w),("ends",ea),("passed",.ref pa),("years",.ref ya)])->H' pa=some (.lst [.int 0])->H' ya=some (.lst [])->Q .non H'
def spTr:Sp:=λvs H Q _=>∃F t dx gv,vs=[.ref t,gv]/\Trk F H/\H t=some (.ins CT dx [])/\¬F t/\Rp F H gv (garT C p)/\
 ∀F' H' B W,Chg [t] F H F' H'->(∀a∈B.w::B.L,H a=none)->TrailAt C CW CT p F' H' t B W [] [0] []->WOk p W->W.mov=[]->Q .non H'
end
theorem _root_.L2.BD.Chg.bk {F F':Addr->Prop}{H H':Hp}(c:Chg L F H F' H')(n:H' a=none):H a=none:=Classical.byContradiction λz=>c.there _ z n
section
variable {C CW CT:Addr}{p:Plot}{F:Addr->Prop}{H H':Hp}{t:Addr}{B:TAd}{W:WebM}{E:List (Nat × Nat)}{ps:List Nat}{ys:List (List Nat)}
theorem TrailAt.begun (h:TrailAt C CW CT p F H t B W E ps ys)(tk:Trk F H)(c:Chg [t] F H F H')(n1:H pa=none)(n2:H ya=none)(ne:pa≠ya)
  (hi:H' t=some (.ins CT B.tdx [("web",.ref B.w),("ends",.ref B.ea),("passed",.ref pa),("years",.ref ya)])) (hp:H' pa=some (.lst [.int 0])) (hy:H' ya=some (.lst [])):
  TrailAt C CW CT p F H' t {B with pa:=pa,ya:=ya} W E [0] []:=by
 have lo:dF0 [t] F H:=λa ha=>by rw [Aa6.mp ha]; exact⟨h.free t (.head _),λxs z=>by rw [h.ins] at z; cases z⟩
 obtain⟨x1,s1,_⟩:=h.web.sts
 obtain⟨x2,c1,_⟩:=h.web.came
 refine⟨hi,h.web.keep c lo λa ha z=> ?_,c.ext _ _ (λz=> ?_) h.ends,hp,⟨[],hy,.nil⟩,λa ha=> ?_,ne,h.em,⟨(ah0 s1 n1).symm,(ah0 c1 n1).symm⟩,⟨(ah0 s1 n2).symm,(ah0 c1 n2).symm⟩⟩
 ·rw [Aa6.mp z] at ha; exact h.apart t (.head _) ha
 ·exact bp0 h.ends h.ins nofun (Aa6.mp z)
 ·simp only [Ab2,Ad0,Ah8] at ha
  rcases ha with rfl|rfl|rfl|rfl
  ·exact h.free _ (.head _)
  ·exact h.free _ (.tail _ (.head _))
  ·exact tk.not n1
  ·exact tk.not n2
end
section
theorem xs0 (Fn:Fun K "begin" "Trail.begin" Ye0 f fd) (T:TxtTrail K CTrail):FnOk P w K mg base CX0 1 f fd X5 (gj0 CTrail):=by
 have sc:=ym0
 refine Fn.ok sc (λvs H Q E h=> ?_) λcdv Ar outer s H vs Q E' hr h=> ?_
 ·obtain⟨F,t,dx,w,ea,fs,rfl,_⟩:=h; rfl
 obtain⟨F,t,dx,w,ea,fs,rfl,tk,ht,hf,nt,q⟩:=h
 refine⟨_,am0 (dm0 (pv 0) (dP0 (ao0 cC0 ax0)) rfl) (aw0 (dm0 (pv 0) (dP0 ax0) rfl)),?_⟩
 have lf:fs.length<=2:=by rcases hf with rfl|⟨x,y,rfl⟩<;>simp
 refine⟨nb0,λpa n1=>⟨_,rfl,t,CTrail,dx,_,rfl,(aj0 (ah0 ht n1)).trans ht,T.cl,T.V3,by rw [Ac4,Ac4]; omega,?_⟩⟩
 have c0:Chg [t] F H F H:=(Mono.refl tk).chg
 have c1:=c0.fld (o:=.lst [.int 0]) (o':=.ins CTrail dx (putF "passed" (.ref pa) (("web",w)::("ends",ea)::fs))) n1 (by rw [ht]; exact nofun)
 have w1:upd (upd H pa (.lst [.int 0])) t (.ins CTrail dx (putF "passed" (.ref pa) (("web",w)::("ends",ea)::fs))) t=_:=ag0
 have p1:=upd3 (Hk:=H) (o:=.lst [.int 0]) (o':=.ins CTrail dx (putF "passed" (.ref pa) (("web",w)::("ends",ea)::fs))) (ah0 ht n1).symm
 generalize upd (upd H pa (.lst [.int 0])) t (.ins CTrail dx (putF "passed" (.ref pa) (("web",w)::("ends",ea)::fs)))=H1 at c1 w1 p1 ⊢
 have e:∀pa ya,putF "years" ya (putF "passed" pa (("web",w)::("ends",ea)::fs))=([("web",w),("ends",ea),("passed",pa),("years",ya)]:List (Str × V)):=λpa ya=>by rcases hf with rfl|⟨x,y,rfl⟩<;>rfl
 have l2:(putF "passed" (.ref pa) (("web",w)::("ends",ea)::fs)).length<1000:=by rcases hf with rfl|⟨x,y,rfl⟩<;>exact(by decide:(4:Nat)<1000)|>Ao1 (by first|exact Ab1 _|exact(by decide:(3:Nat)<=4))
 refine⟨Ae5 _,λya n2=>⟨_,rfl,t,CTrail,dx,_,rfl,(aj0 (ah0 w1 n2)).trans w1,T.cl,T.Q1,l2,?_⟩⟩
 rw [e]
 have c2:=c1.fld (o:=.lst []) (o':=.ins CTrail dx [("web",w),("ends",ea),("passed",.ref pa),("years",.ref ya)]) n2 (by rw [w1]; exact nofun)
 exact q _ pa ya c2 n1 (c1.bk n2) (ah0 p1 n2) ag0 (upd2 p1 n2 (ah0 ht n1).symm) (upd3 (ah0 w1 n2).symm)
theorem hs0 (Fn:Fun K "__init__" "Trail.__init__" Ve0 f fd) (T0:Txt K mg C CWeb) (T:TxtTrail K CTrail) (D1:MkOk P w K mg base CWeb 2 "Web" V8 (pz0 C CWeb p)) (D2:SpOk P w K mg base CTrail 1 "begin" X5 (gj0 CTrail)):
  FnOk P w K mg base CX0 4 f fd J3 (spTr C CWeb CTrail p):=by
 have sc:=vm0
 refine Fn.ok sc (λvs H Q E h=> ?_) λcdv Ar outer s H vs Q E' hr h=> ?_
 ·obtain⟨F,t,dx,gv,rfl,_⟩:=h; rfl
 obtain⟨F,t,dx,gv,rfl,tk,ht,nft,rg,q⟩:=h
 obtain⟨f1,d1,F1,M1,m1,B1⟩:=D1
 obtain⟨f2,d2,F2,M2,B2⟩:=D2
 refine⟨_,am0 (dm0 (pv 0) (fd0 M1 F1 hr.mono (by rfl) m1 B1 .nil bf0 (ao0 (pv 1) ax0)) rfl) (am0 (dm0 (pv 0) eF0 rfl) (aw0 (bB0 (ci0 (pv 0) T.cl M2 F2 hr.mono B2 .nil bf0)))),?_⟩
 refine⟨_,rfl,λw dx' nw ndx dw=> ?_⟩
 have m0:Mono F H F (upd (upd H dx' (.own w)) w (.ins CWeb dx' [])):=by
  have a:Mono F H F (upd H dx' (.own w)):=.laid tk ndx
  exact a.trans (.laid a.trk ((aj0 dw.symm).trans nw))
 have i0:upd (upd H dx' (.own w)) w (.ins CWeb dx' []) w=some (.ins CWeb dx' []):=ag0
 generalize upd (upd H dx' (.own w)) w (.ins CWeb dx' [])=H0 at m0 i0 ⊢
 refine⟨F,w,dx',gv,rfl,m0.trk,i0,tk.not nw,rg.keep m0.keep,λF1 H1 A W c1 nA hW ok em=>⟨rfl,?_⟩⟩
 have tw:t≠w:=ah0 ht nw
 have ht0:=m0.ext _ _ ht
 have ht1:=c1.ext _ _ (λz=>tw (Aa6.mp z)) ht0
 have nft1:¬F1 t:=c1.free nft (by rw [ht0]; exact nofun)
 have tA:t∉A.L:=λz=>by rw [nA t z] at ht0; cases ht0
 refine⟨_,rfl,t,CTrail,dx,[],rfl,ht1,T.cl,T.Kf0,by simp,?_⟩
 have c2:Chg [t] F1 H1 F1 (upd H1 t (.ins CTrail dx (putF "web" (.ref w) []))):=.write c1.trk (.head _) (by rw [ht1]; exact nofun)
 have t2:upd H1 t (.ins CTrail dx (putF "web" (.ref w) [])) t=some (.ins CTrail dx [("web",.ref w)]):=ag0
 generalize upd H1 t (.ins CTrail dx (putF "web" (.ref w) []))=H2 at c2 t2 ⊢
 refine λea n3=>⟨_,rfl,t,CTrail,dx,_,rfl,(aj0 (ah0 t2 n3)).trans t2,T.cl,T.W3,by simp,?_⟩
 have c3:=c2.fld (o:=.dK []) (o':=.ins CTrail dx (putF "ends" (.ref ea) [("web",.ref w)])) n3 (by rw [t2]; exact nofun)
 have t3:upd (upd H2 ea (.dK [])) t (.ins CTrail dx (putF "ends" (.ref ea) [("web",.ref w)])) t=some (.ins CTrail dx [("web",.ref w),("ends",.ref ea)]):=ag0
 have e3:=upd3 (Hk:=H2) (o:=.dK []) (o':=.ins CTrail dx (putF "ends" (.ref ea) [("web",.ref w)])) (ah0 t2 n3).symm
 generalize upd (upd H2 ea (.dK [])) t (.ins CTrail dx (putF "ends" (.ref ea) [("web",.ref w)]))=H3 at c3 t3 e3 ⊢
 refine⟨_,rfl,t,dx,_,rfl,t3,rfl,F1,t,dx,.ref w,.ref ea,[],rfl,c3.trk,t3,.inl rfl,nft1,λH4 pa ya c4 n4 n5 ne i4 p4 y4=> ?_⟩
 have lo1:dF0 [t] F1 H1:=λa ha=>by rw [Aa6.mp ha]; exact⟨nft1,λxs z=>by rw [ht1] at z; cases z⟩
 have c14:=c3.trans c4
 have off:∀a∈ [w,A.sa,A.na,A.ca,A.ma],a∉ [t]:=λa ha z=>by
  rw [Aa6.mp z] at ha
  rcases Ab2.mp ha with z|z
  ·exact tw z
  ·exact tA z
 have hW4:=hW.keep c14 lo1 off
 have hW3:=hW.keep c3 lo1 off
 obtain⟨x1,s3,_⟩:=hW3.sts
 obtain⟨x2,k3,_⟩:=hW3.came
 obtain⟨x3,m3,_⟩:=hW3.mov
 have hW2:=hW.keep c2 lo1 off
 obtain⟨x4,m2,_⟩:=hW2.mov
 have eat:ea≠t:=(ah0 t2 n3).symm
 have ea0:H ea=none:=(m0.chg (L:=[])).bk (c1.bk (c2.bk n3))
 have pa0:H pa=none:=(m0.chg (L:=[])).bk (c1.bk (c3.bk n4))
 have ya0:H ya=none:=(m0.chg (L:=[])).bk (c1.bk (c3.bk n5))
 have hT:TrailAt C CWeb CTrail p F1 H4 t ⟨dx,w,ea,pa,ya,A⟩ W [] [0] []:=by
  refine⟨i4,hW4,c4.ext _ _ (λz=>eat (Aa6.mp z)) e3,p4,⟨[],y4,.nil⟩,λa ha=> ?_,ne,(ah0 m2 n3).symm,⟨(ah0 s3 n4).symm,(ah0 k3 n4).symm⟩,⟨(ah0 s3 n5).symm,(ah0 k3 n5).symm⟩⟩
  simp only [Ab2,Ad0,Ah8] at ha
  rcases ha with rfl|rfl|rfl|rfl
  ·exact nft1
  ·exact c1.trk.not (c2.bk n3)
  ·exact c1.trk.not (c3.bk n4)
  ·exact c1.trk.not (c3.bk n5)
 refine q F1 H4 ⟨dx,w,ea,pa,ya,A⟩ W ?_ (λa ha=> ?_) hT ok em
 ·have c01:=m0.chg (L:=[w])
  have c:=(c01.trans c1)
  exact⟨λb o nb h=>c14.ext b o nb (c.ext b o (λz=>by rw [Aa6.mp z,nw] at h; cases h) h),λa h=>c.sub a h,λa h=>c.new a h,c4.trk,λb h=>c14.there b (c.there b h)⟩
 ·have ha:a∈w::ea::pa::ya::A.L:=ha
  simp only [Ab2] at ha
  rcases ha with rfl|rfl|rfl|rfl|ha
  ·exact nw
  ·exact ea0
  ·exact pa0
  ·exact ya0
  ·exact(m0.chg (L:=[])).bk (nA a (by simpa using ha))
end
theorem dq0 {β:Type}:∀{l:List (Nat × β)},n∈l.map (·.1)->∃v,l.lookup n=some v
 | (k,v)::l,h=>by
  rw [Ac5]
  by_cases e:n=k
  ·subst e; exact⟨v,by rw [Ah7]⟩
  ·rw [show (n==k)=false from beq_eq_false_iff_ne.mpr e]
   exact dq0 ((Ab2.mp h).resolve_left e)
theorem iE0 {l:List Nat}(nd:l.Nodup)(h:∀x∈l,x<N):l.length<=N:=by
 have:=nd.length_le_of_subset (l₂:=List.range N) (λx hx=>Ag5.mpr (h x hx))
 rwa [Ag8] at this
theorem EndsOk.few (h:EndsOk p l E):E.length<=l.length:=by
 have:=iE0 h.nd (N:=l.length) λx hx=>by
  obtain⟨v,e⟩:=dq0 hx
  obtain⟨s,a,_⟩:=h.ok x v e
  exact(Aa9.mp a).1
 rwa [Aa1] at this
def dw0 (E:List (Nat × Nat))(ys:List (List Nat))(m:Nat):Nat:=(1301 - E.length)*(m+2)+(m - ys.length)
theorem dz0:da0 E k n (some m)=dR0 E k n m:=by
 unfold da0 dR0
 cases E.lookup n<;>rfl
theorem jE0 (w:Way p l ps ys)(h0:l[0]?=some (aE0 p))(hn:ps[ys.length]?=some n):∃s,l[n]?=some s:=by
 by_cases e:ys=[]
 ·subst e
  rw [show ([]:List (List Nat)).length=0 from rfl,w.one] at hn
  cases hn
  exact⟨_,h0⟩
 ·have hl:ys.length - 1<ys.length:=by have:=List.length_pos_iff.mpr e; omega
  obtain⟨m',n',s',a,b,c,d,e'⟩:=w.go (ys.length - 1) _ (Aa4 hl)
  rw [show ys.length - 1+1=ys.length by omega,hn] at b
  cases b
  exact⟨_,e'⟩
def GoInv (C CW CT:Addr)(p:Plot)(t:Addr)(B:TAd)(m:Nat)(F:Addr->Prop)(H:Hp)(E:List (Nat × Nat))(ys:List (List Nat))(k:Nat)(σ:L2.St)(H':Hp):Prop:=
 σ=[some (.ref t),some (.int (m:Int))]/\∃F' W' E' ps' ys',Chg B.L F H F' H'/\TrailAt C CW CT p F' H' t B W' E' ps' ys'/\WOk p W'/\((ps'=[]/\¬Can p m (aE0 p))\/ (TOk p W'.sts E' ps' ys' m/\ys'.length<m/\dw0 E' ys' m<=dw0 E ys m/\k=1301 - E'.length))
section
variable (C CW CT:Addr)(p:Plot)
def spGo:Sp:=λvs H Q _=>∃F t B W E ps ys,∃m:Nat,vs=[.ref t,.int (m:Int)]/\Trk F H/\TrailAt C CW CT p F H t B W E ps ys/\WOk p W/\TOk p W.sts E ps ys m/\ys.length<m/\m<5000/\
 (∀F' H' W' E' ps' ys',Chg B.L F H F' H'->TrailAt C CW CT p F' H' t B W' E' ps' ys'->WOk p W'->TOk p W'.sts E' ps' ys' m->dw0 E' ys' m<dw0 E ys m->Q (.bl true) H')/\
 ∀F' H',Chg B.L F H F' H'->¬Can p m (aE0 p)->Q (.bl false) H'
end
section
theorem Zs0 (Fn:Fun K "go_on" "Trail.go_on" X8 f fd) (T:TxtTrail K CTrail) (hp:Tight p) (D1:SpOk P w K mg base CTrail 6 "step" w6 (iX0 C CWeb CTrail p)) (D2:SpOk P w K mg base CTrail 6 "turn_back" y6 (jU0 C CWeb CTrail p)):
  FnOk P w K mg base CX0 7 f fd v3 (spGo C CWeb CTrail p):=by
 have sc:=Xi0
 refine Fn.ok sc (λvs H Q E h=> ?_) λcdv Ar outer s H vs Q E' hr h=> ?_
 ·obtain⟨F,t,B,W,E,ps,ys,m,rfl,_⟩:=h; rfl
 obtain⟨F,t,B,W,E,ps,ys,m,rfl,tk,hT,ok,tok,hl,hm,q1,q2⟩:=h
 obtain⟨f1,d1,F1,M1,B1⟩:=D1
 obtain⟨f2,d2,F2,M2,B2⟩:=D2
 refine⟨_,am0 (dD0 PassesOwn.never (eB0 (aR0 (pv 0) rfl) (λ_=>rfl))
   (am0 (cM0 (fB0 (bH0 (pv 0) T.cl M1 F1 hr.mono B1 .nil bf0 (ao0 (pv 1) ax0))) (aw0 (aW0 ew0)) bq0)
   (aw0 (bB0 (ci0 (pv 0) T.cl M2 F2 hr.mono B2 .nil bf0)))))
  (aw0 (aW0 ew0)),?_⟩
 refine⟨GoInv C CWeb CTrail p t B m F H E ys,?_,?_⟩
 ·exact⟨_,rfl,F,W,E,ps,ys,(Mono.refl tk).chg,hT,ok,.inr ⟨tok,hl,Ab1 _,rfl⟩⟩
 rintro k σ Ha ⟨rfl,Fa,Wa,Ea,pa,ya,ca,hTa,oka,inv⟩
 refine⟨_,rfl,_,_,_,_,_,rfl,hTa.ins,T.cl,T.V3,rfl, !(cx0 pa).isEmpty,.inl ⟨_,SqL.of hTa.pas,rfl⟩,?_⟩
 rcases inv with⟨rfl,nc⟩|⟨tka,hla,mua,rfl⟩
 ·exact iteF (q2 Fa Ha ca nc)
 have lp:=tka.way.len
 have pne:pa≠ []:=λz=>by rw [z] at lp; cases lp
 obtain⟨p0,n,rfl⟩:∃p0 n,pa=p0++ [n]:=⟨_,_,(Af0 pne).symm⟩
 rw [show (!(cx0 (p0++ [n])).isEmpty)=true by unfold cx0; rw [Ac3]; cases p0<;>rfl]
 have lp0:p0.length=ya.length:=by rw [Aa5] at lp; have:[n].length=1:=rfl; omega
 have hn:(p0++ [n])[ya.length]?=some n:=by rw [Ab9 (by omega),lp0,Aj1]; rfl
 obtain⟨st,hs⟩:=jE0 tka.way oka.st hn
 refine iteT ⟨λσ' H2=>∃m',m'<_/\GoInv C CWeb CTrail p t B m F H E ys m' σ' H2,λσ' H2 h=>h,?_⟩
 refine⟨_,rfl,t,B.tdx,_,rfl,hTa.ins,rfl,_,rfl,Fa,t,B,Wa,Ea,p0,n,ya,some m,st,rfl,ca.trk,hTa,oka,hs,by omega,by omega,λF' H' W' pre r k post c' hT' ok' pr mv nw wk=> ?_,λF' H' W' ms c' hT' ok' pr em mv nw=> ?_⟩
 ·refine⟨_,rfl,iteT (q1 F' H' W' Ea (p0++ [n]++ [k]) (ya++ [r]) (ca.trans c') hT' ok' (TOk.step (tka.pre pr) hn (aS0 pr hs) mv (λx hx=>dz0▸nw x hx) (dz0▸wk) hla) ?_)⟩
  unfold dw0 at mua ⊢
  rw [Aa5,Ab5]
  omega
 ·have tk':=tka.pre pr
  have nw':∀x∈ms,dR0 Ea ya.length x.2 m=false:=λx hx=>dz0▸nw x hx
  have hall:∀x∈ms,∃k,Ea.lookup x.2=some k:=λx hx=>let ⟨k,a,_⟩:=fr0 tk'.ends (nw' x hx) (mv.2 x hx); ⟨k,a⟩
  obtain⟨h0,e0,_⟩:=pb0 hall
  obtain⟨lk,_,_⟩:=tk'.back ok'.st (aS0 pr hs) mv nw' hla e0
  have lm:ms.length<=125:=by
   have:=fb0 hp (ok'.re st (Ac7 (aS0 pr hs)))
   rw [<- mv.1,Aa1] at this
   exact this
  have lE:Ea.length<=1300:=Ac6 tk'.ends.few (bz0 hp ok'.nd ok'.re)
  refine⟨_,rfl,iteF ?_⟩
  refine⟨_,rfl,t,B.tdx,_,rfl,hT'.ins,rfl,F',t,B,W',Ea,p0,n,ya,ms,st,rfl,c'.trk,hT',ok',aS0 pr hs,em,hall,lk,by omega,by omega,λF2 H2 h c2 hT2 eh=> ?_⟩
  obtain⟨_,eo,cs⟩:=tk'.back ok'.st (aS0 pr hs) mv nw' hla eh
  rcases cs with⟨rfl,rfl,nc⟩|⟨y',r,rfl,tk2⟩
  ·exact⟨0,by omega,rfl,F2,W',_,[],_,(ca.trans c').trans c2,hT2,ok',.inl ⟨rfl,nc⟩⟩
  ·rw [Ak2] at hT2
   rw [Aa5,Ab5] at hla
   refine⟨1301 - (Ea++ [(n,h)]).length,by rw [Aa5,Ab5]; omega,rfl,F2,W',_,p0,y',(ca.trans c').trans c2,hT2,ok',.inr ⟨tk2,by omega,Ac6 ?_ mua,rfl⟩⟩
   unfold dw0
   rw [Aa5,Ab5,Aa5,Ab5]
   have:(1301 - Ea.length)*(m+2)=(1301 - (Ea.length+1))*(m+2)+(m+2):=by rw [<- Aw5]; congr 1; omega
   omega
end
theorem _root_.L2.BD.Chg.shrink {F F':Addr->Prop}(c:Chg L F H F' H')(h:∀a∈L,a∈L0\/ H a=none):Chg L0 F H F' H':=
 ⟨λb o nb e=>c.ext b o (λz=>(h b z).elim nb λn=>by rw [n] at e; cases e) e,c.sub,c.new,c.trk,c.there⟩
section
variable (C CW CT:Addr)(p:Plot)
def go0:Sp:=λvs H Q _=>∃F t B W E ps ys,∃m:Nat,vs=[.ref t,.int (m:Int)]/\Trk F H/\TrailAt C CW CT p F H t B W E ps ys/\WOk p W/\EndsOk p W.sts E/\(∀x,E.lookup 0=some x->m<=x)/\m<5000/\
 (∀F' H',Chg (t::B.ea::B.A.L) F H F' H'->¬Can p m (aE0 p)->Q .non H')/\
 ∀F' H' ya xs plan,Chg (t::B.ea::B.A.L) F H F' H'->H ya=none->¬F' ya->H' ya=some (.lst xs)->Rps F' H' xs (plan.map rowT)->aT0 p m (aE0 p)=some plan->Q (.ref ya) H'
def ni0:Sp:=λvs H Q _=>∃F gv,∃m:Nat,vs=[gv,.int (m:Int)]/\Trk F H/\Rp F H gv (garT C p)/\m<5000/\(∀F' H',Mono F H F' H'->¬Can p m (aE0 p)->Q .non H')/\
 ∀F' H' ya xs plan,Mono F H F' H'->H ya=none->¬F' ya->H' ya=some (.lst xs)->Rps F' H' xs (plan.map rowT)->aT0 p m (aE0 p)=some plan->Q (.ref ya) H'
end
section
theorem Qs0 (Fn:Fun K "first_plan" "first_plan" kf0 f fd) (T0:Txt K mg C CWeb) (T:TxtTrail K CTrail) (D1:SpOk P w K mg base CTrail 1 "begin" X5 (gj0 CTrail)) (D2:SpOk P w K mg base CTrail 7 "go_on" v3 (spGo C CWeb CTrail p)):
  FnOk P w K mg base CX0 8 f fd Z6 (go0 C CWeb CTrail p):=by
 have sc:=Jm0
 refine Fn.ok sc (λvs H Q E h=> ?_) λcdv Ar outer s H vs Q E' hr h=> ?_
 ·obtain⟨F,t,B,W,E,ps,ys,m,rfl,_⟩:=h; rfl
 obtain⟨F,t,B,W,E,ps,ys,m,rfl,tk,hT,ok,eo,w0,hm,q1,q2⟩:=h
 obtain⟨f1,d1,F1,M1,B1⟩:=D1
 obtain⟨f2,d2,F2,M2,B2⟩:=D2
 refine⟨_,am0 (bB0 (ci0 (pv 0) T.cl M1 F1 hr.mono B1 .nil bf0))
  (am0 (dD0 PassesOwn.never (eY0 pw0 (bV0 bX0 (by rfl) T0.x0 Al6 (ao0 (aR0 (pv 0) rfl) ax0)) (pv 1) (cZ0 _))
   (aw0 (cM0 (lg0 (fB0 (bH0 (pv 0) T.cl M2 F2 hr.mono B2 .nil bf0 (ao0 (pv 1) ax0)))) (aw0 (aW0 ep0)) bq0)))
  (aw0 (aW0 (aR0 (pv 0) rfl)))),?_⟩
 refine⟨_,rfl,t,B.tdx,_,rfl,hT.ins,rfl,F,t,B.tdx,.ref B.w,.ref B.ea,_,rfl,tk,hT.ins,.inr ⟨_,_,rfl⟩,hT.free t (.head _),λH1 pa ya c1 n1 n2 ne i1 p1 y1=> ?_⟩
 have hT1:=hT.begun tk c1 n1 n2 ne i1 p1 y1
 have tok1:=lW0 eo w0
 have big:∀{F' H'},Chg (TAd.L {B with pa:=pa,ya:=ya}) F H1 F' H'->Chg (t::B.ea::B.A.L) F H F' H':=λ{F' H'} c=>by
  have c1':Chg (t::TAd.L {B with pa:=pa,ya:=ya}) F H F H1:=c1.mono λa ha=>by rw [Aa6.mp ha]; exact .head _
  have c':Chg (t::TAd.L {B with pa:=pa,ya:=ya}) F H1 F' H':=c.mono λa ha=> .tail _ ha
  refine(c1'.trans c').shrink λa ha=> ?_
  have ha:a∈t::B.ea::pa::ya::B.A.L:=ha
  simp only [Ab2] at ha ⊢
  rcases ha with rfl|rfl|rfl|rfl|ha
  ·exact .inl (.inl rfl)
  ·exact .inl (.inr (.inl rfl))
  ·exact .inr n1
  ·exact .inr n2
  ·exact .inl (.inr (.inr ha))
 refine⟨λk σ H'=>σ=[some (.ref t),some (.int (m:Int))]/\∃F' W' E' ps' ys',Chg (TAd.L {B with pa:=pa,ya:=ya}) F H1 F' H'/\TrailAt C CWeb CTrail p F' H' t {B with pa:=pa,ya:=ya} W' E' ps' ys'/\WOk p W'/\TOk p W'.sts E' ps' ys' m/\k=dw0 E' ys' m,
  ⟨_,rfl,F,W,E,[0],[],(Mono.refl c1.trk).chg,hT1,ok,tok1,rfl⟩,?_⟩
 rintro k σ Ha ⟨rfl,Fa,Wa,Ea,pa',ya',ca,hTa,oka,tka,rfl⟩
 obtain⟨zs,hy,ry⟩:=hTa.yrs
 have lz:zs.length=ya'.length:=by rw [ry.length,Aa1]
 refine⟨_,rfl,_,_,_,_,_,rfl,hTa.ins,T.cl,T.Q1,rfl,⟨_,zs,rfl,.inl (SqL.of hy),_,rfl,_,_,rfl,rfl,_,rfl,?_⟩⟩
 rw [lz]
 by_cases hl:ya'.length<m
 ·rw [Ad9 (show (ya'.length:Int)<(m:Int) by omega)]
  refine iteT ⟨_,λσ' H2 h=>h,?_⟩
  refine⟨_,rfl,t,B.tdx,_,rfl,hTa.ins,rfl,_,rfl,Fa,t,_,Wa,Ea,pa',ya',m,rfl,ca.trk,hTa,oka,tka,hl,hm,λF' H' W' E' ps' ys' c' hT' ok' tk' mu=>⟨_,rfl,iteF ?_⟩,λF' H' c' nc=>⟨_,rfl,iteT ?_⟩⟩
  ·exact⟨_,mu,rfl,F',W',E',ps',ys',ca.trans c',hT',ok',tk',rfl⟩
  ·exact q1 F' H' (big (ca.trans c')) nc
 ·rw [Ad3 (show¬(ya'.length:Int)<(m:Int) by omega)]
  refine iteF ?_
  refine⟨_,rfl,_,_,_,_,_,rfl,hTa.ins,T.cl,T.Q1,rfl,?_⟩
  exact q2 Fa Ha ya zs ya' (big ca) n2 (hTa.free ya (by simp)) hy ry (mc0 tka.way tka.fst (by have:=tka.few; omega) oka.st)
theorem Js0 (Fn:Fun K "plan_for" "plan_for" wf0 f fd) (D1:MkOk P w K mg base CTrail 4 "Trail" J3 (spTr C CWeb CTrail p)) (D2:DfOk P w K mg base 8 "first_plan" Z6 (go0 C CWeb CTrail p)):
  FnOk P w K mg base CX0 9 f fd w9 (ni0 C p):=by
 have sc:=Km0
 refine Fn.ok sc (λvs H Q E h=> ?_) λcdv Ar outer s H vs Q E' hr h=> ?_
 ·obtain⟨F,gv,m,rfl,_⟩:=h; rfl
 obtain⟨F,gv,m,rfl,tk,rg,hm,q1,q2⟩:=h
 obtain⟨f1,d1,F1,M1,m1,B1⟩:=D1
 obtain⟨f2,d2,F2,m2,k2,B2⟩:=D2
 refine⟨_,am0 (cM0 (eY0 pw0 (pv 1) cC0 (cZ0 _)) (aw0 (aW0 ep0)) bq0)
  (aw0 (aW0 (bL0 F2 hr.mono (by rfl) m2 k2 B2 .nil bf0 (ao0 (fd0 M1 F1 hr.mono (by rfl) m1 B1 .nil bf0 (ao0 (pv 0) ax0)) (ao0 (pv 1) ax0))))),?_⟩
 refine⟨_,rfl,_,_,rfl,rfl,_,rfl,?_⟩
 rw [Ad3 (show¬(m:Int)<0 by omega)]
 refine iteF ⟨_,rfl,λt dx nt ndx dt=> ?_⟩
 have m0:Mono F H F (upd (upd H dx (.own t)) t (.ins CTrail dx [])):=by
  have a:Mono F H F (upd H dx (.own t)):=.laid tk ndx
  exact a.trans (.laid a.trk ((aj0 dt.symm).trans nt))
 have i0:upd (upd H dx (.own t)) t (.ins CTrail dx []) t=some (.ins CTrail dx []):=ag0
 generalize upd (upd H dx (.own t)) t (.ins CTrail dx [])=H0 at m0 i0 ⊢
 refine⟨F,t,dx,gv,rfl,m0.trk,i0,tk.not nt,rg.keep m0.keep,λF1 H1 B W c1 nB hT ok em=>⟨rfl,_,rfl,?_⟩⟩
 have c01:Chg [t] F H F1 H1:=m0.chg.trans c1
 have nw:∀a∈t::B.ea::B.A.L,H a=none:=λa ha=>by
  rcases Ab2.mp ha with rfl|ha
  ·exact nt
  ·refine(m0.chg (L:=[])).bk (nB a ?_)
   show a∈B.w::B.ea::B.pa::B.ya::B.A.L
   rcases Ab2.mp ha with rfl|ha
   ·exact .tail _ (.head _)
   ·exact .tail _ (.tail _ (.tail _ (.tail _ ha)))
 have mono:∀{F' H'},Chg (t::B.ea::B.A.L) F1 H1 F' H'->Mono F H F' H':=λ{F' H'} c=>((c01.mono λa ha=>by rw [Aa6.mp ha]; exact .head _).trans c).toMono nw
 exact⟨F1,t,B,W,[],[0],[],m,rfl,c1.trk,hT,ok,⟨Ag6,λ_ _ z=>(nomatch z)⟩,λ_ z=>(nomatch z),hm,λF' H' c nc=>q1 F' H' (mono c) nc,
  λF' H' ya xs plan c n nf hy ry e=>q2 F' H' ya xs plan (mono c) (c01.bk n) nf hy ry e⟩
end
structure TNo (p:Plot)(l:List Stt)(E:List (Nat × Nat))(ps:List Nat)(ys:List (List Nat)):Prop where
 ends:EndsOk p l E
 way:Way p l ps ys
 off:∀(j:Nat) n,ps[j]?=some n->E.lookup n=none
theorem TNo.pre {p:Plot}{l l':List Stt}{E:List (Nat × Nat)}{ps:List Nat}{ys:List (List Nat)}(h:TNo p l E ps ys)(q:l<+:l'):TNo p l' E ps ys:=⟨h.ends.pre q,h.way.pre q,h.off⟩
theorem fi0 {E:List (Nat × Nat)}{k n:Nat}:da0 E k n none=(E.lookup n).isNone:=by
 unfold da0
 cases E.lookup n<;>rfl
theorem qP0 {α:Type}{l:List α}{x y:α}{j:Nat}(h:(l++ [x])[j]?=some y):l[j]?=some y\/ (j=l.length/\y=x):=by
 by_cases hj:j<l.length
 ·rw [Ab3 hj] at h; exact .inl h
 ·have e:j=l.length:=by have:=(Aa9.mp h).1; rw [Aa5,Ab5] at this; omega
  subst e
  rw [Ab9 (Ab1 _),Aj1] at h
  cases h
  exact .inr ⟨rfl,rfl⟩
theorem oF0 {α:Type}{l:List α}{x y:α}{j:Nat}(h:l[j]?=some y):(l++ [x])[j]?=some y:=by
 rw [Ab3 (Aa9.mp h).1]; exact h
theorem fD0 {α:Type}{l:List α}{x:α}:(l++ [x])[l.length]?=some x:=by
 rw [Ab9 (Ab1 _),Aj1]; rfl
theorem TNo.step {p:Plot}{l:List Stt}{E:List (Nat × Nat)}{ps:List Nat}{ys:List (List Nat)}{n k:Nat}{s:Stt}{pre post:List (List Nat × Nat)}{r:List Nat}(h:TNo p l E ps ys)(hn:ps[ys.length]?=some n)(hs:l[n]?=some s)(mv:Moves p l s (pre++(r,k)::post))(hk:E.lookup k=none):TNo p l E (ps++ [k]) (ys++ [r]):=by
 have em:=mv.1
 rw [Ac3,Ac2] at em
 refine⟨h.ends,h.way.step hn hs (by rw [<- em]; exact Ac1 _ (.head _)) (mv.2 (r,k) (Ac1 _ (.head _))),λj n' e=> ?_⟩
 rcases qP0 e with e|⟨_,rfl⟩
 ·exact h.off j n' e
 ·exact hk
theorem TNo.back {p:Plot}{l:List Stt}{E:List (Nat × Nat)}{ps:List Nat}{ys:List (List Nat)}{n h:Nat}{s:Stt}{ms:List (List Nat × Nat)}(t:TNo p l E (ps++ [n]) ys)(hs:l[n]?=some s)(mv:Moves p l s ms)(hall:∀x∈ms,∃k,E.lookup x.2=some k)(e:EndIs E ms h):
  EndsOk p l (E++ [(n,h)])/\((ps=[]/\ys=[])\/ ∃ys' r,ys=ys'++ [r]/\TNo p l (E++ [(n,h)]) ps ys'):=by
 have lp:=t.way.len
 rw [Aa5,Ab5] at lp
 have lp:ps.length=ys.length:=by omega
 have hg:=mL0 t.ends mv hall e
 have ok2:=t.ends.snoc (t.off ps.length n fD0) hs hg
 refine⟨ok2,?_⟩
 by_cases hy:ys=[]
 ·subst hy
  exact .inl ⟨Ae2 lp,rfl⟩
 ·obtain⟨ys',r,rfl⟩:∃ys' r,ys=ys'++ [r]:=⟨_,_,(Af0 hy).symm⟩
  refine .inr ⟨ys',r,rfl,ok2,t.way.back,λj n' e1=> ?_⟩
  cases q:(E++ [(n,h)]).lookup n' with
  |none=>rfl
  |some x=>
   rcases dJ0 q with z|⟨rfl,rfl⟩
   ·rw [t.off j n' (oF0 e1)] at z; cases z
   ·exact absurd (dU0 t.way (i:=j) (j:=ps.length) (Aa9.mp e1).1 (oF0 e1) fD0 hs _) hg.2
def Popd (E:List (Nat × Nat))(p0 ps:List Nat):Prop:=p0<+:ps/\∀(j:Nat) n,p0.length<=j->ps[j]?=some n->∃h,E.lookup n=some h
def Sube (E E':List (Nat × Nat)):Prop:=∀n h,E.lookup n=some h->E'.lookup n=some h
def oH0 (C CW CT:Addr)(p:Plot)(t:Addr)(B:TAd)(F:Addr->Prop)(H:Hp)(E:List (Nat × Nat))(ps:List Nat)(k:Nat)(σ:L2.St)(H':Hp):Prop:=
 σ=[some (.ref t),some .non]/\∃F' W' E' ps' ys',Chg B.L F H F' H'/\TrailAt C CW CT p F' H' t B W' E' ps' ys'/\WOk p W'/\Popd E' ps' ps/\Sube E E'/\ys'.length<6000/\k=1301 - E'.length/\((ps'=[]/\ys'=[]/\EndsOk p W'.sts E')\/ TNo p W'.sts E' ps' ys')
section
variable (C CW CT:Addr)(p:Plot)
def pp0:Sp:=λvs H Q _=>∃F t B W E ps ys,vs=[.ref t,.non]/\Trk F H/\TrailAt C CW CT p F H t B W E ps ys/\WOk p W/\TNo p W.sts E ps ys/\ys.length<6000/\
 (∀F' H' W' E' p0 k ys',Chg B.L F H F' H'->TrailAt C CW CT p F' H' t B W' E' (p0++ [k]) ys'->WOk p W'->TNo p W'.sts E' (p0++ [k]) ys'->Popd E' p0 ps->Sube E E'->Q (.bl true) H')/\
 ∀F' H' W' E' h,Chg B.L F H F' H'->TrailAt C CW CT p F' H' t B W' E' [] []->WOk p W'->EndsOk p W'.sts E'->E'.lookup 0=some h->Q (.bl false) H'
end
section
theorem Ks0 (Fn:Fun K "go_on" "Trail.go_on" X8 f fd) (T:TxtTrail K CTrail) (hp:Tight p) (D1:SpOk P w K mg base CTrail 6 "step" w6 (iX0 C CWeb CTrail p)) (D2:SpOk P w K mg base CTrail 6 "turn_back" y6 (jU0 C CWeb CTrail p)):
  FnOk P w K mg base CX0 7 f fd v3 (pp0 C CWeb CTrail p):=by
 have sc:=Xi0
 refine Fn.ok sc (λvs H Q E h=> ?_) λcdv Ar outer s H vs Q E' hr h=> ?_
 ·obtain⟨F,t,B,W,E,ps,ys,rfl,_⟩:=h; rfl
 obtain⟨F,t,B,W,E,ps,ys,rfl,tk,hT,ok,tok,hl,q1,q2⟩:=h
 obtain⟨f1,d1,F1,M1,B1⟩:=D1
 obtain⟨f2,d2,F2,M2,B2⟩:=D2
 refine⟨_,am0 (dD0 PassesOwn.never (eB0 (aR0 (pv 0) rfl) (λ_=>rfl))
   (am0 (cM0 (fB0 (bH0 (pv 0) T.cl M1 F1 hr.mono B1 .nil bf0 (ao0 (pv 1) ax0))) (aw0 (aW0 ew0)) bq0)
   (aw0 (bB0 (ci0 (pv 0) T.cl M2 F2 hr.mono B2 .nil bf0)))))
  (aw0 (aW0 ew0)),?_⟩
 refine⟨oH0 C CWeb CTrail p t B F H E ps,?_,?_⟩
 ·exact⟨_,rfl,F,W,E,ps,ys,(Mono.refl tk).chg,hT,ok,⟨Aq0 _,λj n hj e=>by have:=(Aa9.mp e).1; omega⟩,λ_ _ h=>h,hl,rfl,.inr tok⟩
 rintro k σ Ha ⟨rfl,Fa,Wa,Ea,pa,ya,ca,hTa,oka,po,sb,hly,rfl,inv⟩
 refine⟨_,rfl,_,_,_,_,_,rfl,hTa.ins,T.cl,T.V3,rfl, !(cx0 pa).isEmpty,.inl ⟨_,SqL.of hTa.pas,rfl⟩,?_⟩
 rcases inv with⟨rfl,rfl,eo⟩|tka
 ·obtain⟨h,eh⟩:=po.2 0 0 (Ab1 _) tok.way.one
  exact iteF (q2 Fa Ha Wa Ea h ca hTa oka eo eh)
 have lp:=tka.way.len
 have pne:pa≠ []:=λz=>by rw [z] at lp; cases lp
 obtain⟨p0,n,rfl⟩:∃p0 n,pa=p0++ [n]:=⟨_,_,(Af0 pne).symm⟩
 rw [show (!(cx0 (p0++ [n])).isEmpty)=true by unfold cx0; rw [Ac3]; cases p0<;>rfl]
 have lp0:p0.length=ya.length:=by rw [Aa5] at lp; have:[n].length=1:=rfl; omega
 have hn:(p0++ [n])[ya.length]?=some n:=lp0▸fD0
 obtain⟨st,hs⟩:=jE0 tka.way oka.st hn
 refine iteT ⟨λσ' H2=>∃m',m'<_/\oH0 C CWeb CTrail p t B F H E ps m' σ' H2,λσ' H2 h=>h,?_⟩
 refine⟨_,rfl,t,B.tdx,_,rfl,hTa.ins,rfl,_,rfl,Fa,t,B,Wa,Ea,p0,n,ya,none,st,rfl,ca.trk,hTa,oka,hs,by omega,by omega,λF' H' W' pre r k post c' hT' ok' pr mv nw wk=> ?_,λF' H' W' ms c' hT' ok' pr em mv nw=> ?_⟩
 ·rw [fi0,Option.isNone_iff_eq_none] at wk
  exact⟨_,rfl,iteT (q1 F' H' W' Ea (p0++ [n]) k (ya++ [r]) (ca.trans c') hT' ok' ((tka.pre pr).step hn (aS0 pr hs) mv wk) po sb)⟩
 ·have tk':=tka.pre pr
  have hall:∀x∈ms,∃k,Ea.lookup x.2=some k:=λx hx=>by
   have:=nw x hx
   rw [fi0] at this
   cases q:Ea.lookup x.2 with
   |none=>rw [q] at this; cases this
   |some k=>exact⟨k,rfl⟩
  have lm:ms.length<=125:=by
   have:=fb0 hp (ok'.re st (Ac7 (aS0 pr hs)))
   rw [<- mv.1,Aa1] at this
   exact this
  have lk:=tk'.off p0.length n fD0
  have lE:Ea.length<=1300:=Ac6 tk'.ends.few (bz0 hp ok'.nd ok'.re)
  refine⟨_,rfl,iteF ?_⟩
  refine⟨_,rfl,t,B.tdx,_,rfl,hT'.ins,rfl,F',t,B,W',Ea,p0,n,ya,ms,st,rfl,c'.trk,hT',ok',aS0 pr hs,em,hall,lk,by omega,by omega,λF2 H2 h c2 hT2 eh=> ?_⟩
  obtain⟨eo,cs⟩:=tk'.back (aS0 pr hs) mv hall eh
  have sb2:Sube E (Ea++ [(n,h)]):=λm x hx=>by rw [cG0,sb m x hx]; rfl
  have po2:Popd (Ea++ [(n,h)]) p0 ps:=⟨(Aj0 p0 [n]).trans po.1,λj m hj e=>by
   by_cases hj':(p0++ [n]).length<=j
   ·obtain⟨x,ex⟩:=po.2 j m hj' e
    exact⟨x,by rw [cG0,ex]; rfl⟩
   ·rw [Aa5,Ab5] at hj'
    have ej:j=p0.length:=by omega
    subst ej
    have:=aS0 po.1 (fD0 (l:=p0) (x:=n))
    rw [e] at this
    cases this
    exact⟨h,by rw [cG0,lk,Ar8,Ac5,Ah7]⟩⟩
  have hlt:1301 - (Ea++ [(n,h)]).length<1301 - Ea.length:=by rw [Aa5,Ab5]; omega
  rcases cs with⟨rfl,rfl⟩|⟨y',r,rfl,tk2⟩
  ·exact⟨_,hlt,rfl,F2,W',_,[],_,(ca.trans c').trans c2,hT2,ok',po2,sb2,by decide,rfl,.inl ⟨rfl,rfl,eo⟩⟩
  ·rw [Ak2] at hT2
   rw [Aa5,Ab5] at hly
   exact⟨_,hlt,rfl,F2,W',_,p0,y',(ca.trans c').trans c2,hT2,ok',po2,sb2,by omega,rfl,.inr tk2⟩
end
theorem lO0 {p:Plot}{l:List Stt}{ps:List Nat}{ys:List (List Nat)}(w:Way p l ps ys)(h0:l[0]?=some (aE0 p)){j n:Nat}(hn:ps[j]?=some n):∃s,l[n]?=some s:=by
 cases j with
 |zero=>rw [w.one] at hn; cases hn; exact⟨_,h0⟩
 |succ j=>
  have:=(Aa9.mp hn).1
  have:=w.len
  obtain⟨m',n',s',a,b,c,d,e'⟩:=w.go j _ (Aa4 (by omega))
  rw [hn] at b
  cases b
  exact⟨_,e'⟩
structure PlOk (E:List (Nat × Nat))(ps:List Nat)(k:Nat)(L:List (Nat × Nat)):Prop where
 nd:(L.map (·.1)).Nodup
 at_:∀n j,L.lookup n=some j->(∃h,E.lookup n=some h)\/ (j<k/\ps[j]?=some n)
theorem PlOk.few {p:Plot}{l:List Stt}{E L:List (Nat × Nat)}{ps:List Nat}{ys:List (List Nat)}{k:Nat}(h:PlOk E ps k L)(t:TNo p l E ps ys)(h0:l[0]?=some (aE0 p)):L.length<=l.length:=by
 have:=iE0 h.nd (N:=l.length) λx hx=>by
  obtain⟨v,e⟩:=dq0 hx
  rcases h.at_ x v e with⟨y,z⟩|⟨_,z⟩
  ·obtain⟨s,a,_⟩:=t.ends.ok x y z
   exact(Aa9.mp a).1
  ·obtain⟨s,a⟩:=lO0 t.way h0 z
   exact(Aa9.mp a).1
 rwa [Aa1] at this
theorem PlOk.next (h:PlOk E ps k L)(hn:ps[k]?=some n)(nl:L.lookup n=none)(po:Popd E' p0 ps)(sb:Sube E E'):PlOk E' (p0++ [k0]) p0.length (L++ [(n,k)]):=by
 refine⟨?_,λm j e=> ?_⟩
 ·rw [Ac3]
  refine Al4.mpr ⟨h.nd,Ae8.mpr ⟨nofun,Ag6⟩,λa ha b hb z=> ?_⟩
  rw [Aa6.mp hb] at z
  have z:a=n:=z
  exact look_none nl (z▸ha)
 ·have key:∀j,ps[j]?=some m->(∃h,E'.lookup m=some h)\/ (j<p0.length/\(p0++ [k0])[j]?=some m):=λj e=>by
   by_cases hj:j<p0.length
   ·refine .inr ⟨hj,?_⟩
    rw [Ab3 hj]
    have:=aS0 po.1 (Aa4 hj)
    rw [e] at this
    rw [Aa4 hj]
    exact this.symm
   ·exact .inl (po.2 j m (by omega) e)
  rcases dJ0 e with e|⟨rfl,rfl⟩
  ·rcases h.at_ m j e with⟨x,hx⟩|⟨_,z⟩
   ·exact .inl ⟨x,sb m x hx⟩
   ·exact key j z
  ·exact key _ hn
section
variable {C CW CT:Addr}{p:Plot}{F F':Addr->Prop}{H H':Hp}{t:Addr}{B:TAd}{W:WebM}{E:List (Nat × Nat)}{ps:List Nat}{ys:List (List Nat)}{a:Addr}
theorem TrailAt.all (h:TrailAt C CW CT p F H t B W E ps ys):∀b∈t::B.w::B.L,H b≠none:=λb hb z=>by
 have:b∈ [t,B.ea,B.pa,B.ya]\/ b∈ [B.w,B.A.sa,B.A.na,B.A.ca,B.A.ma]:=by
  simp only [Ab2,Ad0,Ah8] at hb ⊢
  rcases hb with z|z|z|z|z|z|z|z|z<;>simp [z]
 rcases this with q|q
 ·obtain⟨o,e,_⟩:=h.there b q; rw [z] at e; cases e
 ·obtain⟨o,e,_⟩:=h.web.there b q; rw [z] at e; cases e
theorem TrailAt.aside (h:TrailAt C CW CT p F H t B W E ps ys)(c:Chg [a] F H F' H')(lo:dF0 [a] F H)(n:a∉t::B.w::B.L):TrailAt C CW CT p F' H' t B W E ps ys:=by
 have off:∀b∈t::B.w::B.L,b∉ [a]:=λb hb z=>n (Aa6.mp z▸hb)
 have k:=c.keep lo
 obtain⟨xs,y1,r1⟩:=h.yrs
 refine⟨c.ext _ _ (off _ (by simp)) h.ins,h.web.keep c lo λb hb=>off b ?_,c.ext _ _ (off _ (by simp)) h.ends,c.ext _ _ (off _ (by simp)) h.pas,⟨xs,c.ext _ _ (off _ (by simp)) y1,r1.keep k⟩,λb hb=> ?_,h.py,h.em,h.ps_,h.ys_⟩
 ·simp only [Ab2,Ad0,Ah8] at hb ⊢
  rcases hb with z|z|z|z|z<;>simp [z]
 ·obtain⟨o,e,_⟩:=h.there b hb
  exact c.free (h.free b hb) (by rw [e]; exact nofun)
end
section
variable (C CW CT:Addr)(p:Plot)
def ok0:Sp:=λvs H Q _=>∃F t B W,vs=[.ref t]/\Trk F H/\TrailAt C CW CT p F H t B W [] [0] []/\WOk p W/\
 (∀F' H' W' E' h,Chg B.L F H F' H'->TrailAt C CW CT p F' H' t B W' E' [] []->WOk p W'->EndsOk p W'.sts E'->E'.lookup 0=some h->Q .non H')/\
 ∀F' H' W' E' ps ys,∀k n:Nat,Chg B.L F H F' H'->TrailAt C CW CT p F' H' t B W' E' ps ys->WOk p W'->TNo p W'.sts E' ps ys->k<ys.length->ys.length<5000->ps[k]?=some n->ps[ys.length]?=some n->Q (.int (k:Nat)) H'
end
section
theorem Ws0 (Fn:Fun K "round_place" "round_place" vf0 f fd) (T0:Txt K mg C CWeb) (T:TxtTrail K CTrail) (hp:Tight p) (D1:SpOk P w K mg base CTrail 1 "last" j6 (iU0 C CWeb CTrail p)) (D2:SpOk P w K mg base CTrail 7 "go_on" v3 (pp0 C CWeb CTrail p)):
  FnOk P w K mg base CX0 8 f fd Q6 (ok0 C CWeb CTrail p):=by
 have sc:=Wm0
 refine Fn.ok sc (λvs H Q E h=> ?_) λcdv Ar outer s H vs Q E' hr h=> ?_
 ·obtain⟨F,t,B,W,rfl,_⟩:=h; rfl
 obtain⟨F,t,B,W,rfl,tk,hT,ok,q1,q2⟩:=h
 obtain⟨f1,d1,F1,M1,B1⟩:=D1
 obtain⟨f2,d2,F2,M2,B2⟩:=D2
 refine⟨_,am0 (bA0 (i:=1) sc.nd rfl (Or.inl rfl) eF0)
  (am0 (dD0 PassesOwn.never (dL0 (cS0 (ce0 hr) (ci0 (pv 0) T.cl M1 F1 hr.mono B1 .nil bf0) (pv 1)) rfl)
   (am0 (cP0 (ce0 hr) (pv 1) (ci0 (pv 0) T.cl M1 F1 hr.mono B1 .nil bf0) (bV0 bX0 (by rfl) T0.x0 Al6 (ao0 (aR0 (pv 0) rfl) ax0)) rfl)
   (aw0 (cM0 (lg0 (fB0 (bH0 (pv 0) T.cl M2 F2 hr.mono B2 .nil bf0 (ao0 ep0 ax0)))) (aw0 (aW0 ep0)) bq0))))
  (aw0 (aW0 (cF0 (ce0 hr) (pv 1) (ci0 (pv 0) T.cl M1 F1 hr.mono B1 .nil bf0) (λ_ _=>rfl))))),?_⟩
 refine λpl n0=> ?_
 have m0:Mono F H F (upd H pl (.dK [])):=.laid tk n0
 have hpl:upd H pl (.dK []) pl=some (.dK (cB0 [])):=ag0
 have npl:pl∉t::B.w::B.L:=λz=>hT.all pl z n0
 have nfp:¬F pl:=tk.not n0
 have hT0:=hT.mono m0
 have nL:pl∉B.L:=λz=>npl (.tail _ (.tail _ z))
 generalize upd H pl (.dK [])=H1 at m0 hpl hT0 ⊢
 have big:∀{F' H'},Chg (pl::B.L) F H1 F' H'->Chg B.L F H F' H':=λ{F' H'} c=>(m0.chg.trans c).shrink λa ha=>(Ab2.mp ha).elim (λz=> .inr (z▸n0)) .inl
 refine⟨λk σ H'=>σ=[some (.ref t),some (.ref pl)]/\∃F' W' E' ps' n' ys' L',Chg (pl::B.L) F H1 F' H'/\TrailAt C CWeb CTrail p F' H' t B W' E' (ps'++ [n']) ys'/\WOk p W'/\TNo p W'.sts E' (ps'++ [n']) ys'/\¬F' pl/\H' pl=some (.dK (cB0 L'))/\PlOk E' (ps'++ [n']) ys'.length L'/\ys'.length<=L'.length/\k=1301 - L'.length,
  ⟨_,rfl,F,W,[],[],0,[],[],(Mono.refl m0.trk).chg,hT0,ok,⟨⟨Ag6,λ_ _ z=>(nomatch z)⟩,⟨rfl,rfl,λ_ _ e=>(nomatch e)⟩,λ_ _ _=>rfl⟩,nfp,hpl,⟨Ag6,λ_ _ z=>(nomatch z)⟩,Ab1 _,rfl⟩,?_⟩
 rintro k σ Ha ⟨rfl,Fa,Wa,Ea,pa,n,ya,La,ca,hTa,oka,tka,nfa,hpa,po,lly,rfl⟩
 have lL:La.length<=1300:=Ac6 (po.few tka oka.st) (bz0 hp oka.nd oka.re)
 have lp:=tka.way.len
 rw [Aa5,Ab5] at lp
 have lp:pa.length=ya.length:=by omega
 have hn:(pa++ [n])[ya.length]?=some n:=lp▸fD0
 have hv:=df0 n La
 refine⟨_,rfl,t,B.tdx,_,rfl,hTa.ins,rfl,Fa,t,B,Wa,Ea,pa,n,ya,rfl,ca.trk,hTa,_,rfl,pl,_,rfl,DGet.k (k:=.inl (n:Int)) hpa,_,rfl,?_⟩
 rw [hv]
 cases el:La.lookup n with
 |some j=>
  refine iteF ?_
  refine⟨_,rfl,_,rfl,t,B.tdx,_,rfl,hTa.ins,rfl,Fa,t,B,Wa,Ea,pa,n,ya,rfl,ca.trk,hTa,pl,.int (j:Nat),rfl,?_,?_⟩
  ·have:=DGet.k (k:=Sum.inl (n:Int)) hpa
   rw [hv,el] at this
   exact this
  ·rcases po.at_ n j el with⟨h,e⟩|⟨a,b⟩
   ·rw [tka.off _ n hn] at e; cases e
   ·exact q2 Fa Ha Wa Ea _ ya j n (big ca) hTa oka tka a (by omega) b hn
 |none=>
  refine iteT ⟨_,λσ' H2 h=>h,?_⟩
  obtain⟨zs,hy,ry⟩:=hTa.yrs
  have lz:zs.length=ya.length:=by rw [ry.length,Aa1]
  refine oe0 (gW0 ⟨_,rfl,_,_,_,_,_,rfl,hTa.ins,T.cl,T.Q1,rfl,⟨_,zs,rfl,.inl (SqL.of hy),_,rfl,_,rfl,t,B.tdx,_,rfl,hTa.ins,rfl,Fa,t,B,Wa,Ea,pa,n,ya,rfl,ca.trk,hTa,pl,_,rfl,DPut.k (k:=Sum.inl (n:Int)) hpa (by unfold cB0; rw [Aa1,Ae1]; omega),?_⟩⟩)
  rw [el] at hv
  rw [dW0 _ hv,lz]
  have ee:cB0 La++ [(Sum.inl (n:Int),V.int (ya.length:Int))]=cB0 (La++ [(n,ya.length)]):=by unfold cB0; rw [Ac3]; rfl
  rw [ee]
  have c1:Chg [pl] Fa Ha Fa (upd Ha pl (.dK (cB0 (La++ [(n,ya.length)])))):=.write ca.trk (.head _) (by rw [hpa]; exact nofun)
  have hp1:upd Ha pl (.dK (cB0 (La++ [(n,ya.length)]))) pl=some _:=ag0
  have hT1:=hTa.aside c1 (λa ha=>by rw [Aa6.mp ha]; exact⟨nfa,λxs z=>by rw [hpa] at z; cases z⟩) npl
  generalize upd Ha pl (.dK (cB0 (La++ [(n,ya.length)])))=Hb at c1 hp1 hT1 ⊢
  have cab:=ca.trans (c1.mono λa ha=>by rw [Aa6.mp ha]; exact .head _)
  refine⟨_,rfl,t,B.tdx,_,rfl,hT1.ins,rfl,Fa,t,B,Wa,Ea,_,ya,rfl,c1.trk,hT1,oka,tka,by omega,λF' H' W' E' p0 k ys' c' hT' ok' tk' po' sb=>⟨_,rfl,iteF ?_⟩,λF' H' W' E' h c' hT' ok' eo eh=>⟨_,rfl,iteT ?_⟩⟩
  ·have l2:=tk'.way.len
   rw [Aa5,Ab5] at l2
   have l2:p0.length=ys'.length:=by omega
   have l3:=po'.1.length_le
   rw [Aa5,Ab5] at l3
   refine⟨_,?_,rfl,F',W',E',p0,k,ys',La++ [(n,ya.length)],cab.trans (c'.mono λa ha=> .tail _ ha),hT',ok',tk',c'.free nfa (by rw [hp1]; exact nofun),c'.ext _ _ nL hp1,l2▸po.next hn el po' sb,?_,rfl⟩
   ·rw [Aa5,Ab5]; omega
   ·rw [Aa5,Ab5]; omega
  ·exact q1 F' H' W' E' h (big (cab.trans (c'.mono λa ha=> .tail _ ha))) hT' ok' eo eh
end
def GoesTo (p:Plot):Stt->List (List Nat)->Stt->Prop
 |s,[],t=>s=t
 |s,r::rs,t=>r∈mayM p s/\GoesTo p (an0 p s r) rs t
theorem jH0 (w:Way p l ps ys)(hs:l[n]?=some s):∀(d a:Nat) {m:Nat} {t:Stt},a+d<=ys.length->ps[a+d]?=some n->ps[a]?=some m->l[m]?=some t->GoesTo p t ((ys.drop a).take d) s:=by
 intro d
 induction d with
 |zero=>
  intro a m t _ hn hm ht
  have hn:ps[a]?=some n:=hn
  rw [hm] at hn
  cases hn
  rw [hs] at ht
  cases ht
  exact rfl
 |succ d ih=>
  intro a m t ha hn hm ht
  have hal:a<ys.length:=by omega
  obtain⟨m',n',s',x,y,z,u,v⟩:=w.go a _ (Aa4 hal)
  rw [hm] at x
  cases x
  rw [ht] at z
  cases z
  rw [Aj8 hal,List.take_succ_cons]
  exact⟨u,ih (a+1) (by omega) (by rw [show a+1+d=a+(d+1) by omega]; exact hn) y v⟩
theorem mY0 {F:Addr->Prop}:∀{xs:List V} {ts:List BD.T},Rps F H xs ts->∀n,Rps F H (xs.take n) (ts.take n)/\Rps F H (xs.drop n) (ts.drop n)
 |_,_,.nil,n=>by simp; exact .nil
 |_,_,.cons h r,0=>⟨.nil,.cons h r⟩
 |_,_,.cons h r,n+1=>let ⟨a,b⟩:=mY0 r n; ⟨.cons h a,b⟩
theorem Hgt.one (x:Hgt p s h)(y:Hgt p s k):h=k:=by have:=x.le y.1; have:=y.le x.1; omega
theorem gt0:∀{h:Nat} {s:Stt},Reach p s->Hgt p s h->∃l:List Stt,l.length=h+1/\l.Nodup/\∀x∈l,Reach p x/\∃k,k<=h/\Hgt p x k
 |0,s,hs,hg=>⟨[s],rfl,Ae8.mpr ⟨nofun,Ag6⟩,λx hx=>by rw [Aa6.mp hx]; exact⟨hs,0,Ab1 _,hg⟩⟩
 |h+1,s,hs,hg=>by
  obtain⟨r,hr,c⟩:=can_succ.mp hg.1
  obtain⟨l,e,nd,al⟩:=gt0 (.step hs hr) ⟨c,λz=>hg.2 (can_succ.mpr ⟨r,hr,z⟩)⟩
  refine⟨s::l,by rw [Ac4,e],Ae8.mpr ⟨λz=> ?_,nd⟩,λx hx=> ?_⟩
  ·obtain⟨_,k,hk,hg'⟩:=al s z
   have:=hg.one hg'
   omega
  ·rcases Ab2.mp hx with rfl|hx
   ·exact⟨hs,h+1,Ab1 _,hg⟩
   ·obtain⟨a,k,hk,b⟩:=al x hx
    exact⟨a,k,by omega,b⟩
theorem qF0 (hp:Tight p)(hs:Reach p s)(hg:Hgt p s h):h<1300:=by
 obtain⟨l,e,nd,al⟩:=gt0 hs hg
 have:=bz0 hp nd λx hx=>(al x hx).1
 omega
section
variable (C CW CT:Addr)(p:Plot)
def mk0:Sp:=λvs H Q _=>∃F gv,vs=[gv]/\Trk F H/\Rp F H gv (garT C p)/\(∀F' H',Mono F H F' H'->(∀k,Can p k (aE0 p))->Q .non H')/\
 ∀F' H' a,∀h:Nat,∀ya xs plan,Mono F H F' H'->H' a=some (.tup [.int (h:Int),.ref ya])->H ya=none->¬F' ya->H' ya=some (.lst xs)->Rps F' H' xs (plan.map rowT)->Hgt p (aE0 p) h->h<5000->aT0 p h (aE0 p)=some plan->Q (.ref a) H'
def lm0:Sp:=λvs H Q _=>∃F gv,vs=[gv]/\Trk F H/\Rp F H gv (garT C p)/\(∀F' H' h,Mono F H F' H'->Hgt p (aE0 p) h->Q .non H')/\
 ∀F' H' a y1 y2 xs1 xs2 pl1 pl2 s,Mono F H F' H'->H' a=some (.tup [.ref y1,.ref y2])->H y1=none->H y2=none->y1≠y2->¬F' y1->¬F' y2->H' y1=some (.lst xs1)->H' y2=some (.lst xs2)->Rps F' H' xs1 (pl1.map rowT)->Rps F' H' xs2 (pl2.map rowT)->GoesTo p (aE0 p) pl1 s->GoesTo p s pl2 s->pl2≠ []->pl1.length+pl2.length<5000->(∀k,Can p k (aE0 p))->Q (.ref a) H'
end
section
theorem Vs0 (Fn:Fun K "longest" "longest" yf0 f fd) (T:TxtTrail K CTrail) (hp:Tight p) (D1:MkOk P w K mg base CTrail 4 "Trail" J3 (spTr C CWeb CTrail p)) (D2:DfOk P w K mg base 8 "round_place" Q6 (ok0 C CWeb CTrail p)) (D3:DfOk P w K mg base 8 "first_plan" Z6 (go0 C CWeb CTrail p)):
  FnOk P w K mg base CX0 9 f fd v9 (mk0 C p):=by
 have sc:=Vm0
 refine Fn.ok sc (λvs H Q E h=> ?_) λcdv Ar outer s H vs Q E' hr h=> ?_
 ·obtain⟨F,gv,rfl,_⟩:=h; rfl
 obtain⟨F,gv,rfl,tk,rg,q1,q2⟩:=h
 obtain⟨f1,d1,F1,M1,m1,B1⟩:=D1
 obtain⟨f2,d2,F2,m2,k2,B2⟩:=D2
 obtain⟨f3,d3,F3,m3,k3,B3⟩:=D3
 refine⟨_,am0 (bA0 (i:=1) sc.nd rfl (Or.inl rfl) (fd0 M1 F1 hr.mono (by rfl) m1 B1 .nil bf0 (ao0 (pv 0) ax0)))
  (am0 (cM0 (dL0 (ie0 (bL0 F2 hr.mono (by rfl) m2 k2 B2 .nil bf0 (ao0 (pv 1) ax0))) rfl) (aw0 (aW0 ep0)) bq0)
  (am0 (bA0 (i:=2) sc.nd rfl (Or.inl rfl) (cF0 (ce0 hr) (aR0 (pv 1) rfl) cC0 (λ_ _=>rfl)))
  (aw0 (aW0 (fP0 (ao0 (pv 2) (ao0 (bL0 F3 hr.mono (by rfl) m3 k3 B3 .nil bf0 (ao0 (pv 1) (ao0 (pv 2) ax0))) ax0))))))),?_⟩
 refine⟨_,rfl,λt dx nt ndx dt=> ?_⟩
 have m0:Mono F H F (upd (upd H dx (.own t)) t (.ins CTrail dx [])):=by
  have a:Mono F H F (upd H dx (.own t)):=.laid tk ndx
  exact a.trans (.laid a.trk ((aj0 dt.symm).trans nt))
 have i0:upd (upd H dx (.own t)) t (.ins CTrail dx []) t=some (.ins CTrail dx []):=ag0
 generalize upd (upd H dx (.own t)) t (.ins CTrail dx [])=H0 at m0 i0 ⊢
 refine⟨F,t,dx,gv,rfl,m0.trk,i0,tk.not nt,rg.keep m0.keep,λF1 H1 B W c1 nB hT ok em=>⟨rfl,?_⟩⟩
 have c01:Chg [t] F H F1 H1:=m0.chg.trans c1
 have nw:∀a∈t::B.w::B.L,H a=none:=λa ha=>by
  rcases Ab2.mp ha with rfl|ha
  ·exact nt
  ·exact(m0.chg (L:=[])).bk (nB a ha)
 have mono:∀{F' H'},Chg (t::B.w::B.L) F1 H1 F' H'->Mono F H F' H':=λ{F' H'} c=>((c01.mono λa ha=>by rw [Aa6.mp ha]; exact .head _).trans c).toMono nw
 refine⟨_,rfl,F1,t,B,W,rfl,c1.trk,hT,ok,λF2 H2 W2 E2 h c2 hT2 ok2 eo eh=>⟨_,rfl,iteF ?_⟩,λF2 H2 W2 E2 ps ys k n c2 hT2 ok2 tn hk hl e1 e2=>⟨_,rfl,iteT (q1 F2 H2 (mono (c2.mono λa ha=> .tail _ (.tail _ ha))) λi=> ?_)⟩⟩
 ·have hv:=df0 0 E2
  rw [eh] at hv
  have g:=DGet.k (k:=Sum.inl (0:Int)) hT2.ends
  rw [show ((0:Int))=((0:Nat):Int) from rfl,hv] at g
  obtain⟨s0,a0,hg⟩:=eo.ok 0 h eh
  rw [ok2.st] at a0
  cases a0
  have hh:h<5000:=Nat.lt_trans (qF0 hp .start hg) (by decide)
  refine⟨_,rfl,_,_,_,_,_,rfl,hT2.ins,T.cl,T.W3,rfl,B.ea,_,rfl,g,?_⟩
  refine⟨_,rfl,_,rfl,_,rfl,F2,t,B,W2,E2,[],[],h,rfl,c2.trk,hT2,ok2,eo,λx ex=>by rw [eh] at ex; cases ex; exact Ab1 _,hh,λF3 H3 c3 nc=>absurd hg.1 nc,λF3 H3 ya xs plan c3 n3 nf hy ry e3=>⟨by rw [Ae1]; exact(by decide:(2:Nat)<=16777216),λa na=> ?_⟩⟩
  have m4:Mono F3 H3 F3 (upd H3 a (.tup [.int (h:Int),.ref ya])):=.laid c3.trk na
  refine q2 F3 _ a h ya xs plan ((mono ((c2.mono λa ha=> .tail _ (.tail _ ha)).trans (c3.mono λb hb=> ?_))).trans m4) ag0 (c01.bk (c2.bk n3)) nf (m4.ext _ _ hy) (ry.keep m4.keep) hg hh e3
  simp only [Ab2,Ad0,Ah8] at hb ⊢
  rcases hb with z|z|z|z|z|z<;>simp [z]
 ·obtain⟨s,hs⟩:=lO0 tn.way ok2.st e1
  exact gX0 (Ap7 i k) (tn.way.can e1 hs k 0 (by omega) tn.way.one ok2.st i (dU0 tn.way hk e1 e2 hs i))
theorem Ys0 (Fn:Fun K "endless" "endless" xf0 f fd) (T:TxtTrail K CTrail) (hp:Tight p) (D1:MkOk P w K mg base CTrail 4 "Trail" J3 (spTr C CWeb CTrail p)) (D2:DfOk P w K mg base 8 "round_place" Q6 (ok0 C CWeb CTrail p)):
  FnOk P w K mg base CX0 9 f fd y9 (lm0 C p):=by
 have sc:=Ym0
 refine Fn.ok sc (λvs H Q E h=> ?_) λcdv Ar outer s H vs Q E' hr h=> ?_
 ·obtain⟨F,gv,rfl,_⟩:=h; rfl
 obtain⟨F,gv,rfl,tk,rg,q1,q2⟩:=h
 obtain⟨f1,d1,F1,M1,m1,B1⟩:=D1
 obtain⟨f2,d2,F2,m2,k2,B2⟩:=D2
 refine⟨_,am0 (bA0 (i:=1) sc.nd rfl (Or.inl rfl) (fd0 M1 F1 hr.mono (by rfl) m1 B1 .nil bf0 (ao0 (pv 0) ax0)))
  (am0 (bA0 (i:=2) sc.nd rfl (Or.inl rfl) (bL0 F2 hr.mono (by rfl) m2 k2 B2 .nil bf0 (ao0 (pv 1) ax0)))
  (am0 (cM0 (dL0 (oE0 (pv 2)) rfl) (aw0 (aW0 ep0)) bq0)
  (aw0 (aW0 (fP0 (ao0 (eD0 ih0 (aR0 (pv 1) rfl) iu0 (if0 (pv 2))) (ao0 (eD0 ih0 (aR0 (pv 1) rfl) (if0 (pv 2)) iu0) ax0))))))),?_⟩
 refine⟨_,rfl,λt dx nt ndx dt=> ?_⟩
 have m0:Mono F H F (upd (upd H dx (.own t)) t (.ins CTrail dx [])):=by
  have a:Mono F H F (upd H dx (.own t)):=.laid tk ndx
  exact a.trans (.laid a.trk ((aj0 dt.symm).trans nt))
 have i0:upd (upd H dx (.own t)) t (.ins CTrail dx []) t=some (.ins CTrail dx []):=ag0
 generalize upd (upd H dx (.own t)) t (.ins CTrail dx [])=H0 at m0 i0 ⊢
 refine⟨F,t,dx,gv,rfl,m0.trk,i0,tk.not nt,rg.keep m0.keep,λF1 H1 B W c1 nB hT ok em=>⟨rfl,?_⟩⟩
 have c01:Chg [t] F H F1 H1:=m0.chg.trans c1
 have nw:∀a∈t::B.w::B.L,H a=none:=λa ha=>by
  rcases Ab2.mp ha with rfl|ha
  ·exact nt
  ·exact(m0.chg (L:=[])).bk (nB a ha)
 have mono:∀{F' H'},Chg B.L F1 H1 F' H'->Mono F H F' H':=λ{F' H'} c=>((c01.mono λa ha=>by rw [Aa6.mp ha]; exact .head _).trans (c.mono λa ha=> .tail _ (.tail _ ha))).toMono nw
 refine⟨_,rfl,F1,t,B,W,rfl,c1.trk,hT,ok,λF2 H2 W2 E2 h c2 hT2 ok2 eo eh=> ?_,λF2 H2 W2 E2 ps ys k n c2 hT2 ok2 tn hk hl e1 e2=> ?_⟩
 ·obtain⟨s0,a0,hg⟩:=eo.ok 0 h eh
  rw [ok2.st] at a0
  cases a0
  exact⟨_,rfl,_,rfl,iteT (q1 F2 H2 h (mono c2) hg)⟩
 ·refine⟨_,rfl,_,rfl,iteF ?_⟩
  obtain⟨xs,hy,ry⟩:=hT2.yrs
  have lx:xs.length=ys.length:=by rw [ry.length,Aa1]
  obtain⟨s,hs⟩:=lO0 tn.way ok2.st e1
  have cut1:cutV xs none (some (k:Int))=xs.take k:=by
   unfold cutV
   rw [HT.sIx_none,HT.sIx_nat,Ar7,Aw4,Nat.min_eq_left (by omega)]
  have cut2:cutV xs (some (k:Int)) none=xs.drop k:=by
   unfold cutV
   rw [HT.sIx_none,HT.sIx_nat,Nat.min_eq_left (by omega),Av5 (by rw [Ak6]; exact Ab1 _)]
  refine⟨_,rfl,_,_,_,_,_,rfl,hT2.ins,T.cl,T.Q1,rfl,_,rfl,_,rfl,_,xs,rfl,SqL.of hy,λy1 n1=> ?_⟩
  rw [cut1]
  have m3:Mono F2 H2 F2 (upd H2 y1 (.lst (xs.take k))):=.laid c2.trk n1
  have h3:upd H2 y1 (.lst (xs.take k)) y1=_:=ag0
  generalize upd H2 y1 (.lst (xs.take k))=H3 at m3 h3 ⊢
  refine⟨_,rfl,_,_,_,_,_,rfl,m3.ext _ _ hT2.ins,T.cl,T.Q1,rfl,_,rfl,_,rfl,_,xs,rfl,SqL.of (m3.ext _ _ hy),λy2 n2=> ?_⟩
  rw [cut2]
  have m4:Mono F2 H3 F2 (upd H3 y2 (.lst (xs.drop k))):=.laid m3.trk n2
  have h4:upd H3 y2 (.lst (xs.drop k)) y2=_:=ag0
  generalize upd H3 y2 (.lst (xs.drop k))=H4 at m4 h4 ⊢
  refine⟨by rw [Ae1]; exact(by decide:(2:Nat)<=16777216),λa na=> ?_⟩
  have m5:Mono F2 H4 F2 (upd H4 a (.tup [.ref y1,.ref y2])):=.laid m4.trk na
  have m25:=(m3.trans m4).trans m5
  obtain⟨r1,r2⟩:=mY0 ry k
  rw [<- List.map_take] at r1
  rw [<- List.map_drop] at r2
  have bk2:∀{b},H2 b=none->H b=none:=λn=>c01.bk (c2.bk n)
  have n22:H2 y2=none:=(m3.chg (L:=[])).bk n2
  have g1:=jH0 tn.way hs k 0 (by omega) (by rw [Af9]; exact e1) tn.way.one ok2.st
  have g2:=jH0 tn.way hs (ys.length - k) k (by omega) (by rw [show k+(ys.length - k)=ys.length by omega]; exact e2) e1 hs
  rw [Ar7] at g1
  rw [Av5 (by rw [Ak6]; exact Ab1 _)] at g2
  refine q2 F2 _ a y1 y2 (xs.take k) (xs.drop k) (ys.take k) (ys.drop k) s ((mono c2).trans m25) ag0 (bk2 n1) (bk2 n22) (ah0 h3 n2) (c2.trk.not n1) (c2.trk.not n22) (m5.ext _ _ (m4.ext _ _ h3)) (m5.ext _ _ h4) (r1.keep m25.keep) (r2.keep m25.keep) g1 g2 (λz=> ?_) ?_ λi=>gX0 (Ap7 i k) (tn.way.can e1 hs k 0 (by omega) tn.way.one ok2.st i (dU0 tn.way hk e1 e2 hs i))
  ·have:=congrArg List.length z
   rw [Ak6,Ak1] at this
   omega
  ·rw [Af7,Ak6]
   omega
end
def Fills (lvs:List (SK × V))(S:Stt->Prop):Prop:=∀s,(valV lvs (keyS s)).isSome=true↔S s
theorem Fills.put {S:Stt->Prop}(h:Fills lvs S)(t:Stt)(v:V):Fills (putK lvs (keyS t) v) (λs=>S s\/ s=t):=λs=>by
 rw [ot0]
 by_cases e:s=t
 ·subst e; rw [if_pos rfl]; exact⟨λ_=> .inr rfl,λ_=>rfl⟩
 ·rw [if_neg (λz=>e (dQ0 z)),h s]
  exact⟨.inl,λz=>z.resolve_right e⟩
theorem Fills.imp {S S':Stt->Prop}(h:Fills lvs S)(e:∀s,S s↔S' s):Fills lvs S':=λs=>(h s).trans (e s)
def Lay (p:Plot)(sts:List Stt)(H:Hp)(l:Addr)(k:Nat):Prop:=∃lvs,H l=some (.dT lvs)/\Fills lvs λs=>s∈sts/\Can p k s
theorem _root_.L2.BD.r_ifC {ta tb:TE}(h:ta σ H λx H1=>tb σ H1 λy H2=>r x y H2 λz H'=>∃k,z=.bl k/\(if k=true then t D σ H' else u D σ H')):tIfS (nQ0 (tOp r ta tb)) t u D σ H:=h
section
variable (p:Plot)
def pk0:Sp:=λvs H Q _=>∃F d ob kvs sts,∃m:Nat,vs=[.ref d,.int (m:Int)]/\Trk F H/\H d=some (.frz ob (.dT kvs))/\ToldF p F H kvs sts/\sts.Nodup/\(∀s,s∈sts↔Reach p s)/\m<5000/\
 ∀H' la (ls:List Addr),Mono F H F H'->H la=none->H' la=some (.lst (ls.map V.ref))->ls.length=m+1->(∀(k:Nat) l,ls[k]?=some l->Lay p sts H' l k)->Q (.ref la) H'
end
theorem _root_.L2.BD.r_set {te:TE}{D:Ends}(h:te σ H λv H1=>D.nx (σ.set i (some v)) H1):tAsg te (cr0 i) D σ H:=h
theorem lQ0 {p:Plot}{F:Addr->Prop}{H:Hp}{kvs:List (SK × V)}{sts:List Stt}(h:ToldF p F H kvs sts){i:Nat}{k:SK}{v:V}(e:kvs[i]?=some (k,v)):∃s,sts[i]?=some s/\k=keyS s/\Rp F H v (.lst (cQ0 p s)):=by
 unfold ToldF at h
 induction h generalizing i with
 |nil=>simp at e
 |cons h _ ih=>
  cases i with
  |zero=>simp at e; subst e; exact⟨_,rfl,h⟩
  |succ i=>obtain⟨s,a,b⟩:=ih (i:=i) (by simpa using e); exact⟨s,by simpa using a,b⟩
theorem nB0 {F:Addr->Prop}(h:ToldF p F H kvs sts)(hs:s∈sts):∃v,valV kvs (keyS s)=some v/\Rp F H v (.lst (cQ0 p s)):=by
 obtain⟨kv,_,e,r⟩:=hR0 h hs
 exact⟨_,e,r⟩
theorem jY0 {F:Addr->Prop}(h:ToldF p F H kvs sts):kvs.length=sts.length:=Paired.length h
theorem gv0 {α:Type}{l:List α}{i:Nat}{x:α}(e:l[i]?=some x)(s:α):s∈l.take (i+1)↔s∈l.take i\/ s=x:=by
 rw [Ag9,e]
 simp
abbrev stepO (p:Plot)(s:Stt)(r:List Nat):BD.T:=.tup [rowT r,as0 (an0 p s r)]
def pS0 (p:Plot)(k:Nat)(s:Stt):List (List Nat):=(mayM p s).filter λr=>(aT0 p k (an0 p s r)).isSome
theorem can_iff:Can p k s↔(aT0 p k s).isSome=true:=by
 unfold Can
 rw [Al9]
theorem nM0:pS0 p k s≠ []↔Can p (k+1) s:=by
 rw [can_succ]
 constructor
 ·intro h
  obtain⟨r,hr⟩:=List.exists_mem_of_ne_nil _ h
  obtain⟨a,b⟩:=Ai8.mp hr
  exact⟨r,a,can_iff.mpr b⟩
 ·rintro⟨r,hr,hc⟩ z
  have:r∈pS0 p k s:=Ai8.mpr ⟨hr,can_iff.mp hc⟩
  rw [z] at this
  exact nomatch this
theorem nD0 (f:BD.T->BD.T->Option Bool)(us:List BD.T):eqLW f us []=some us.isEmpty:=by cases us<;>rfl
section
variable {P:Program}{w:World}{K:Aa3}{mg:Str->Option Value}{base:Heap}{C CWeb f:Addr}{fd:FuncData}{p:Plot}
theorem Xs0 (Fn:Fun K "_law_layers" "_law_layers" Q9 f fd) (T0:Txt K mg C CWeb) (hp:Tight p):FnOk P w K mg base CX0 1 f fd J9 (pk0 p):=by
 have sc:=zn0
 refine Fn.ok sc (λvs H Q E h=> ?_) λcdv Ar outer s H vs Q E' hr h=> ?_
 ·obtain⟨F,d,ob,kvs,sts,m,rfl,_⟩:=h; rfl
 obtain⟨F,d,ob,kvs,sts,m,rfl,tk,hd,told,nd,all,hm,q⟩:=h
 have ls:=jY0 told
 have few:sts.length<=1300:=bz0 hp nd λs hs=>(all s).mp hs
 refine⟨_,am0 (bA0 (i:=2) sc.nd rfl (Or.inr rfl) (dP0 (ao0 eC0 ax0)))
  (am0 (fL0 PassesOwn.never rfl (hv0 (pv 0)) (at0 (i:=3) sc.nd rfl (Or.inl rfl)) (aw0 (cP0 (ce0 hr) (gy0 ix_list (pv 2) cC0 (λ_ _=>rfl)) (pv 3) ew0 rfl)))
  (am0 (fL0 PassesOwn.never rfl (eX0 (by rfl) T0.Z1 (ao0 (pv 1) ax0)) (at0 (i:=4) sc.nd rfl (Or.inr rfl))
   (am0 (bA0 (i:=5) sc.nd rfl (Or.inl rfl) eC0)
   (am0 (fL0 PassesOwn.never rfl (hv0 (pv 0)) (at0 (i:=3) sc.nd rfl (Or.inl rfl))
    (aw0 (cM0 (eY0 (oT0 (hu20 hr)) (ej0 (g:=cr0 0) (tt:=tB (tDIn (tOp (rIxT K) (tVar 0) (tC (.int 1))) (tOp (rIxL K) (tVar 3) (tVar 5)))) (te:=tVar 0) (own:=["step"]) rfl (cc0 zj0 (ad0 Q9) rfl rfl (by decide +kernel))
      (dy0 (cF0 (ce0 hr) (pv 0) (pv 3) (λ_ _=>rfl)))
      (λ_ _ _ _=>at0 (i:=0) (bM0 ((["step"]:List Str)++hide ["step"] zj0) rfl (by decide +kernel)) rfl (Or.inl rfl))
      (λ_ _ _ _=>hV0 (dL0 (oZ0 (ce0 hr) (gy0 L2.ix_tup (pv 0) cC0 (λ_ _=>rfl)) (gy0 ix_list (pv 3) (pv 5) (λ_ _=>rfl))) rfl))
      (λ_ _ _ _=>pv 0)) (dP0 ax0) (cZ0 _)) (aw0 (cP0 (ce0 hr) (pv 5) (pv 3) ew0 rfl)) bq0)))
   (aw0 (bB0 (fw0 Ae0 Ai2 Ai3 cl0 (pv 2) (ao0 (pv 5) ax0)))))))
  (aw0 (aW0 (pv 2))))),?_⟩
 intro l0 n0
 refine⟨nb0,λla n1=> ?_⟩
 have m0:Mono F H F (upd H l0 (.dT [])):=.laid tk n0
 have m1:Mono F (upd H l0 (.dT [])) F (upd (upd H l0 (.dT [])) la (.lst [.ref l0])):=.laid m0.trk n1
 have hla0:H la=none:=(m0.chg (L:=[])).bk n1
 have m01:=m0.trans m1
 have hl0:upd (upd H l0 (.dT [])) la (.lst [.ref l0]) l0=some (.dT []):=m1.ext _ _ ag0
 have hla:upd (upd H l0 (.dT [])) la (.lst [.ref l0]) la=some (.lst [.ref l0]):=ag0
 generalize upd (upd H l0 (.dT [])) la (.lst [.ref l0])=H1 at m1 m01 hl0 hla ⊢
 have hd1:=m01.ext _ _ hd
 have l0d:d≠l0:=ah0 hd n0
 have lal:la≠l0:=bp0 hla hl0 nofun
 refine⟨_,rfl,d,ob,kvs,rfl,hd1,fO0 (λi σ H'=>∃z lvs,σ=[some (.ref d),some (.int (m:Int)),some (.ref la),z,none,none]/\Chg [l0] F H1 F H'/\H' l0=some (.dT lvs)/\lvs.length<=i/\Fills lvs λs=>s∈sts.take i) ⟨none,[],rfl,(Mono.refl m1.trk).chg,hl0,Ab1 _,λs=>⟨λz=>(nomatch z),λz=>by rw [Al5] at z; exact nomatch z⟩⟩ ?_ ?_ ?_⟩
 ·rintro i σ H' ⟨z,lvs,_,c,_⟩
  exact c.ext _ _ (λz=>l0d (Aa6.mp z)) hd1
 ·rintro i k v b σ H' hkv ⟨z,lvs,rfl,c,hl,len,fl⟩ kb
  obtain⟨s,es,rfl,_⟩:=lQ0 told hkv
  have hi:i<kvs.length:=(Aa9.mp hkv).1
  have hla':=c.ext _ _ (λz=>lal (Aa6.mp z)) hla
  refine gW0 ⟨_,rfl,_,_,0,_,rfl,rfl,SqL.of hla',rfl,_,rfl,l0,_,rfl,DPut.t hl kb (by rw [Ae1]; omega),?_⟩
  exact⟨_,_,rfl,c.trans (.write c.trk (.head _) (by rw [hl]; exact nofun)),ag0,Ac6 (cD0 _ _ _) (by omega),(fl.put s _).imp λt=>(gv0 es t).symm⟩
 ·rintro σ H2 ⟨z,lvs,rfl,c2,hl2,_,fl2⟩
  rw [ls,Ae7] at fl2
  have m02:Mono F H F H2:=(m01.chg.trans c2).toMono λa ha=>by rw [Aa6.mp ha]; exact n0
  have hla2:=c2.ext _ _ (λz=>lal (Aa6.mp z)) hla
  refine⟨_,rfl,(m:Int),rfl,by omega,by omega,?_⟩
  rw [Ac9]
  refine mA0 (λj σ H'=>∃z z4 z5,∃ls:List Addr,σ=[some (.ref d),some (.int (m:Int)),some (.ref la),z,z4,z5]/\Mono F H F H'/\H' la=some (.lst (ls.map V.ref))/\ls.length=j+1/\∀(k:Nat) l,ls[k]?=some l->Lay p sts H' l k) ⟨z,none,none,[l0],rfl,m02,hla2,rfl,λk l e=> ?_⟩ ?_ ?_
  ·match k,e with
   |0,e=>cases e; exact⟨lvs,hl2,fl2.imp λs=>⟨λh=>⟨h,eA0⟩,λh=>h.1⟩⟩
   |k+1,e=>cases e
  ·rintro j σ Ha hj ⟨z,z4,z5,la2,rfl,ma,hlaa,lena,laya⟩
   have hda:=ma.ext _ _ hd
   refine λl nl=> ?_
   have hlad:la≠l:=ah0 hlaa nl
   have mb:Mono F Ha F (upd Ha l (.dT [])):=.laid ma.trk nl
   have hl:upd Ha l (.dT []) l=some (.dT []):=ag0
   have hdb:=mb.ext _ _ hda
   have hlab:=mb.ext _ _ hlaa
   have mab:=ma.trans mb
   have layb:∀(k:Nat) l',la2[k]?=some l'->l'≠l/\Lay p sts (upd Ha l (.dT [])) l' k:=λk l' e=>by
    obtain⟨lvs,a,b⟩:=laya k l' e
    exact⟨ah0 a nl,lvs,mb.ext _ _ a,b⟩
   generalize upd Ha l (.dT [])=Hb at mb hl hdb hlab mab layb ⊢
   have dl:d≠l:=bp0 hdb hl nofun
   have nl0:H l=none:=(ma.chg (L:=[])).bk nl
   refine⟨_,rfl,d,ob,kvs,rfl,hdb,fO0 (λi σ H'=>∃z lvs,σ=[some (.ref d),some (.int (m:Int)),some (.ref la),z,some (.int (0+(j:Int))),some (.ref l)]/\Chg [l] F Hb F H'/\H' l=some (.dT lvs)/\lvs.length<=i/\Fills lvs λs=>s∈sts.take i/\Can p (j+1) s) ⟨z,[],rfl,(Mono.refl mb.trk).chg,hl,Ab1 _,λs=>⟨λz=>(nomatch z),λz=>by rw [Al5] at z; exact nomatch z.1⟩⟩ ?_ ?_ ?_⟩
   ·rintro i σ H' ⟨z,lvs,_,c,_⟩
    exact c.ext _ _ (λz=>dl (Aa6.mp z)) hdb
   ·rintro i k v b σ Hc hkv ⟨z,lvs,rfl,c,hlc,len,fl⟩ kb
    obtain⟨s,es,rfl,_⟩:=lQ0 told hkv
    have hi:i<kvs.length:=(Aa9.mp hkv).1
    have hs:s∈sts:=Ac7 es
    have mc:Mono F H F Hc:=(mab.chg.trans c).toMono λa ha=>by rw [Aa6.mp ha]; exact nl0
    have hdc:=mc.ext _ _ hd
    have hlac:=c.ext _ _ (λz=>hlad (Aa6.mp z)) hlab
    obtain⟨v',ev,rv⟩:=nB0 (told.keep mc.keep) hs
    obtain⟨a,xs,rfl,fa,ha,rxs⟩:∃a xs,v'=.ref a/\F a/\Hc a=some (.lst xs)/\Rps F Hc xs (cQ0 p s):=by
     cases rv with|lst f h r=>exact⟨_,_,rfl,f,h,r⟩
    have g:=DGet.f hdc kb
    rw [ev] at g
    have fm:=fb0 hp ((all s).mp hs)
    obtain⟨lj,elj⟩:∃lj,la2[j]?=some lj:=⟨_,Aa4 (by omega)⟩
    obtain⟨nlj,lvj,hlj,flj⟩:=layb j lj elj
    refine r_ifC (lf0 ⟨_,rfl,_,rfl,d,_,rfl,g,a,rfl,⟨xs,SqL.of ha⟩,gB0 (rs:=mayM p s) (tr:=stepO p s) (P:=λr=>(aT0 p j (an0 p s r)).isSome) (bT0 fa ha rxs) c.trk (by omega) ?_ ?_⟩)
    ·intro r hr F5 H5 x R N m5 rx hT hF
     cases rx with
     |tup h5 r5=>
      obtain⟨x1,x2,rfl,p1,p2⟩:=r5.two
      obtain⟨b5,rfl,kb5⟩:=gM0 p2
      have hla5:=m5.ext _ _ hlac
      have hlj5:=m5.ext _ _ (c.ext _ _ (λz=>nlj (Aa6.mp z)) hlj)
      refine⟨rfl,_,rfl,_,_,1,_,rfl,rfl,SqT.of h5,rfl,_,rfl,_,rfl,la,_,0+(j:Int),.ref lj,rfl,rfl,SqL.of hla5,?_,lj,_,rfl,DGet.t hlj5 kb5,_,rfl,?_⟩
      ·rw [Aq6]
       exact atI_nat (by rw [Ab0,elj]; rfl)
      ·have e:(valV lvj (keyS (an0 p s r))).isSome=(aT0 p j (an0 p s r)).isSome:=by
        have rb:an0 p s r∈sts:=(all _).mpr (.step ((all s).mp hs) hr)
        rw [Ak0,flj,<- can_iff]
        exact⟨λz=>z.2,λz=>⟨rb,z⟩⟩
       rw [e]
       cases hb:(aT0 p j (an0 p s r)).isSome with
       |true=>exact iteT ⟨_,rfl,hT hb⟩
       |false=>exact iteF (hF hb)
    ·intro F5 H5 pl ys m5 hpl rys
     refine⟨Ae5 _,λe he=> ?_⟩
     have m6:Mono F5 H5 F5 (upd H5 pl (.lst ys)):=.laid m5.trk hpl
     have m7:Mono F5 (upd H5 pl (.lst ys)) F5 (upd (upd H5 pl (.lst ys)) e (.lst [])):=.laid m6.trk he
     have hp7:upd (upd H5 pl (.lst ys)) e (.lst []) pl=some (.lst ys):=m7.ext _ _ ag0
     have he7:upd (upd H5 pl (.lst ys)) e (.lst []) e=some (.lst []):=ag0
     have m57:=(m5.trans m6).trans m7
     have r7:=rys.keep (m6.trans m7).keep
     generalize upd (upd H5 pl (.lst ys)) e (.lst [])=H7 at m7 hp7 he7 m57 r7 ⊢
     refine⟨F5,_,_,_,.o (.lst hp7 r7),.o (.lst he7 .nil),rfl,nD0 _ _,_,rfl,?_⟩
     have c7:Chg [l] F Hb F H7:=c.trans (m57.lent c.trk).chg
     have hl7:=m57.ext _ _ hlc
     have kb7:KeyAt H7 b (keyS s):=kb.keeps λb xs e=>m57.ext _ _ e
     have gc:= @nM0 p j s
     unfold pS0 at gc
     cases eg:(mayM p s).filter λr=>(aT0 p j (an0 p s r)).isSome with
     |nil=>
      refine iteF ⟨_,lvs,rfl,c7,hl7,by omega,fl.imp λt=> ?_⟩
      rw [gv0 es t]
      constructor
      ·rintro⟨a,b⟩; exact⟨.inl a,b⟩
      ·rintro⟨a|rfl,b⟩
       ·exact⟨a,b⟩
       ·exact absurd eg (gc.mpr b)
     |cons r0 rr=>
      have hc:Can p (j+1) s:=gc.mp (by rw [eg]; exact nofun)
      refine iteT (gW0 ⟨_,rfl,_,rfl,l,_,rfl,DPut.t hl7 kb7 (by rw [Ae1]; omega),?_⟩)
      refine⟨_,_,rfl,c7.trans (.write c7.trk (.head _) (by rw [hl7]; exact nofun)),ag0,Ac6 (cD0 _ _ _) (by omega),(fl.put s _).imp λt=> ?_⟩
      rw [gv0 es t]
      constructor
      ·rintro(⟨a,b⟩|rfl)
       ·exact⟨.inl a,b⟩
       ·exact⟨.inr rfl,hc⟩
      ·rintro⟨a|rfl,b⟩
       ·exact .inl ⟨a,b⟩
       ·exact .inr rfl
   ·rintro σ Hc ⟨z,lvs,rfl,c,hlc,_,fl⟩
    rw [ls,Ae7] at fl
    have mc:Mono F H F Hc:=(mab.chg.trans c).toMono λa ha=>by rw [Aa6.mp ha]; exact nl0
    have hlac:=c.ext _ _ (λz=>hlad (Aa6.mp z)) hlab
    refine⟨_,rfl,.inl ⟨rfl,_,SqL.of hlac⟩,_,rfl,la,_,_,rfl,rfl,hlac,by rw [Ae1,Aa1]; omega,?_⟩
    have cw:Chg [la] F H F (upd Hc la (.lst (la2.map V.ref++ [.ref l]))):=(mc.chg (L:=[la])).trans (.write mc.trk (.head _) (by rw [hlac]; exact nofun))
    refine⟨_,_,_,la2++ [l],rfl,cw.toMono λa ha=>by rw [Aa6.mp ha]; exact hla0,?_,by rw [Aa5,Ab5]; omega,λk l' e=> ?_⟩
    ·rw [Ac3]; exact ag0
    ·have keep:∀{l' lvs},Hc l'=some (.dT lvs)->upd Hc la (.lst (la2.map V.ref++ [.ref l])) l'=some (.dT lvs):=λ{l' lvs} e=>(aj0 (bp0 e hlac nofun)).trans e
     by_cases hk:k<la2.length
     ·rw [Ab3 hk] at e
      obtain⟨n',lv',a,b⟩:=layb k l' e
      exact⟨lv',keep (c.ext _ _ (λz=>n' (Aa6.mp z)) a),b⟩
     ·have hk2:k=la2.length:=by have:=(Aa9.mp e).1; rw [Aa5,Ab5] at this; omega
      subst hk2
      rw [Ab9 (Ab1 _),Aj1] at e
      cases e
      rw [lena]
      exact⟨lvs,keep hlc,fl⟩
  ·rintro σ H3 ⟨z,z4,z5,ls3,rfl,m03,hla3,len3,lay3⟩
   exact⟨_,rfl,q H3 la ls3 m03 hla0 hla3 len3 lay3⟩
end
theorem iB0 (n:Nat)(i j:Int):eqT (n+1) (.int i) (.int j)=some (decide (i=j)):=by
 show some (i==j)=_
 by_cases h:i=j
 ·subst h; simp
 ·simp [h]
theorem iI0 (n:Nat):∀(r q:List Nat),eqLW (eqT (n+1)) (r.map intT) (q.map intT)=some (decide (r=q))
 | [],[]=>rfl
 | [],_::_=>rfl
 |_::_,[]=>rfl
 |a::r,b::q=>by
  rw [Ac2,Ac2]
  unfold eqLW
  rw [iB0,iI0 n r q]
  show some (decide ((a:Int)=(b:Int)) && decide (r=q))=_
  congr 1
  by_cases h1:a=b
  ·subst h1
   by_cases h2:r=q
   ·subst h2; simp
   ·simp [h2]
  ·have:¬((a:Int)=(b:Int)):=by omega
   simp [h1,this]
theorem gx0 (n:Nat)(r q:List Nat):eqT (n+2) (rowT r) (rowT q)=some (decide (r=q)):=iI0 n r q
theorem jT0 (r:List Nat):∀(rs:List (List Nat)),inT (rowT r) (rs.map rowT)=some (decide (r∈rs))
 | []=>rfl
 |q::rs=>by
  rw [Ac2]
  unfold inT
  rw [gx0 7,jT0 r rs]
  show some (decide (q=r)||decide (r∈rs))=_
  congr 1
  by_cases h:q=r
  ·subst h; simp
  ·simp [h,Ne.symm h]
theorem eQ0 {p q:En->Option Bool}(h1:p ε=some false)(h2:q ε=some false):qOr p q ε=some false:=by
 unfold qOr
 rw [h1,Aa2,if_neg Ab4]
 exact h2
theorem jO0 (C:Addr)(i:Int):V1 C [.int i]=some (false,.bl true):=rfl
theorem eg0 {gs:List BD.T->Option (Bool × BD.T)}{E:En->Option BD.T}(hE:E ε=some s)(hp:gs [s]=some (false,u)):eFn gs (aa0 E aNil) ε=some u:=by
 unfold eFn aa0 aNil
 simp only [hE,Aa2,hp,noD,Ai1,Ad6,Ah2]
theorem fj0 {gs:List BD.T->Option (Bool × BD.T)}{E F G:En->Option BD.T}(hE:E ε=some s)(hF:F ε=some t)(hG:G ε=some v)(hp:gs [s,t,v]=some (false,u)):eFn gs (aa0 E (aa0 F (aa0 G aNil))) ε=some u:=by
 unfold eFn aa0 aNil
 simp only [hE,hF,hG,Aa2,hp,noD,Ai1,Ad6,Ah2]
theorem nu0 {gs:List BD.T->Option (Bool × BD.T)}{E F:En->Option BD.T}(hE:E ε=some s)(hF:F ε=some t)(hp:gs [s,t]=some (true,u)):eFnF gs (aa0 E (aa0 F aNil)) ε=some u:=by
 unfold eFnF aa0 aNil
 simp only [hE,hF,Aa2,hp]
theorem ma0 {bd:BD.T->En->Option En}{body:En->Option Fl}(h1:bd x ε=some ε1)(h2:body ε1=some (.nx ε2)):cz0 bd body (x::ts) ε=cz0 bd body ts ε2:=by
 conv=>lhs; unfold cz0
 rw [h1,Aa2,h2]
 rfl
def Goes (p:Plot):Stt->List (List Nat)->Prop
 |_,[]=>True
 |s,r::rs=>r∈mayM p s/\Goes p (an0 p s r) rs
def endM (p:Plot)(s:Stt)(plan:List (List Nat)):Stt:=plan.foldl (an0 p) s
theorem fG0:∀{m:Nat} {s:Stt} {plan:List (List Nat)},aT0 p m s=some plan->Goes p s plan
 |0,s,plan,h=>by cases h; trivial
 |m+1,s,plan,h=>by
  rw [aT0] at h
  obtain⟨r,hr,e⟩:=Am1 h
  cases q:aT0 p m (an0 p s r) with
  |none=>rw [q] at e; cases e
  |some pl=>
   rw [q] at e
   cases e
   exact⟨hr,fG0 q⟩
theorem gQ0:∀{m:Nat} {s:Stt} {plan:List (List Nat)},aT0 p m s=some plan->plan.length=m
 |0,s,plan,h=>by cases h; rfl
 |m+1,s,plan,h=>by
  rw [aT0] at h
  obtain⟨r,hr,e⟩:=Am1 h
  cases q:aT0 p m (an0 p s r) with
  |none=>rw [q] at e; cases e
  |some pl=>
   rw [q] at e
   cases e
   rw [Ac4,gQ0 q]
def bs0 (plan:List (List Nat)):BD.T:=.lst (plan.map rowT)
def wg0 (C:Addr):En->Option Fl:=(sSeq (sIf (qOr (qNot (qB (eIs "tuple" (bVar 3)))) (qB (e2 φNiD (bVar 3) (eFnF (V2 C) (aa0 (eVar 0) (aa0 (eVar 1) aNil)))))) (sRet false (eC .non)) sNx)
  (sSet 1 (eFn (Y2 C) (aa0 (eVar 0) (aa0 (eVar 1) (aa0 (eVar 3) aNil))))))
section
variable (C:Addr){p:Plot}(hp:Tight p)
include hp
theorem gU0 (pl:BD.T):∀(plan:List (List Nat)) (s:Stt) (x:Sl),Reach p s->Goes p s plan->
  ∃x',cz0 (aq0 3) (wg0 C) (plan.map rowT) [.sh (aD0 p),.sh (as0 s),.sh pl,x]=some (.nx [.sh (aD0 p),.sh (as0 (endM p s plan)),.sh pl,x'])
 | [],s,x,_,_=>⟨x,rfl⟩
 |r::rs,s,x,hs,⟨hr,hg⟩=>by
  obtain⟨sm1,sm2⟩:=hs.small hp
  obtain⟨l1,l2,l3⟩:=fh0 hr
  have ni:φNiD (rowT r) (.lst ((mayM p s).map rowT))=some (.bl false):=by
   show (inT (rowT r) ((mayM p s).map rowT)).map _=_
   rw [jT0,Ad9 hr]
   rfl
  have q1:qNot (qB (eIs "tuple" (bVar 3))) [.sh (aD0 p),.sh (as0 s),.sh pl,.sh (rowT r)]=some false:=rfl
  have q2:qB (e2 φNiD (bVar 3) (eFnF (V2 C) (aa0 (eVar 0) (aa0 (eVar 1) aNil)))) [.sh (aD0 p),.sh (as0 s),.sh pl,.sh (rowT r)]=some false:=cK0 ((av0 (s:=rowT r) rfl (nu0 rfl rfl (hx0 C p hp.toGood s sm1 sm2))).trans ni)
  have lb:=es0 C p hp.toGood s r sm1 (λb hb=>(sm2 b hb).1) l1 l3
  have b:wg0 C [.sh (aD0 p),.sh (as0 s),.sh pl,.sh (rowT r)]=some (.nx [.sh (aD0 p),.sh (as0 (an0 p s r)),.sh pl,.sh (rowT r)]):=by
   unfold wg0
   rw [aG0 (dH0 (eQ0 q1 q2))]
   exact aU0 (fj0 rfl rfl rfl lb)
  rw [Ac2,ma0 rfl b]
  exact gU0 pl rs (an0 p s r) (.sh (rowT r)) (.step hs hr) hg
theorem gq0 (hs:Reach p s)(hg:Goes p s plan):X2 C [aD0 p,as0 s,bs0 plan]=some (false,as0 (endM p s plan)):=by
 obtain⟨x',l⟩:=gU0 C hp (bs0 plan) plan s .un hs hg
 unfold X2 je0
 refine Eq.trans (aL0 (ε:=[.sh (aD0 p),.sh (as0 s),.sh (bs0 plan),.un]) rfl rfl) ?_
 refine Eq.trans (cg0 (cy0 (ts:=plan.map rowT) rfl l)) ?_
 rfl
end
def kk0 (C:Addr):En->Option Fl:=sIf (qOr (qNot (qB (eIs "tuple" (bVar 1)))) (qB (e2 (φIn false) (eC (.bl false)) (ba0 1 (iTpl (eVar 1)) (aq0 0) bu0 (eFn (V1 C) (aa0 (eVar 0) aNil)))))) (sRet false (eC (.bl false))) sNx
theorem lG0 {α:Type}:∀l:List α,((l.map λ_=>BD.T.bl true).all aZ0=true)/\((l.map λ_=>BD.T.bl true).any λy=>eqV (toV y) (toV (.bl false)))=false
 | []=>⟨rfl,rfl⟩
 |x::l=>by
  obtain⟨a,b⟩:=lG0 l
  rw [Ac2,Aj3,Ai0,a,b]
  exact⟨rfl,rfl⟩
theorem jK0 (C:Addr)(pl:BD.T):∀(plan:List (List Nat)) (x:Sl),(∀r∈plan,r.length<=1000)->∃x',cz0 (aq0 1) (kk0 C) (plan.map rowT) [.sh pl,x]=some (.nx [.sh pl,x'])
 | [],x,_=>⟨x,rfl⟩
 |r::rs,x,h=>by
  have q1:qNot (qB (eIs "tuple" (bVar 1))) [.sh pl,.sh (rowT r)]=some false:=rfl
  have ec:ba0 1 (iTpl (eVar 1)) (aq0 0) bu0 (eFn (V1 C) (aa0 (eVar 0) aNil)) [.sh pl,.sh (rowT r)]=some (.lst (r.map λ_=>BD.T.bl true)):=by
   have:=bi0 (n:=1) (it:=iTpl (eVar 1)) (ε:=[.sh pl,.sh (rowT r)]) (bd:=aq0 0) (f:=eFn (V1 C) (aa0 (eVar 0) aNil)) (G:=λ_=>BD.T.bl true) (ts:=r.map intT) rfl (by rw [Aa1]; exact Ac6 (h r (.head _)) (by decide)) λt ht=>by
    obtain⟨n,_,rfl⟩:=Ac0.mp ht
    exact⟨_,rfl,eg0 rfl (jO0 C _)⟩
   rw [this,Ad2]
   rfl
  have q2:qB (e2 (φIn false) (eC (.bl false)) (ba0 1 (iTpl (eVar 1)) (aq0 0) bu0 (eFn (V1 C) (aa0 (eVar 0) aNil)))) [.sh pl,.sh (rowT r)]=some false:=by
   refine cK0 ((av0 (s:=.bl false) rfl ec).trans ?_)
   obtain⟨a,b⟩:=lG0 r
   show (if aZ0 (.bl false) && _ then _ else _)=_
   rw [a,b]
   rfl
  have b:kk0 C [.sh pl,.sh (rowT r)]=some (.nx [.sh pl,.sh (rowT r)]):=dH0 (eQ0 q1 q2)
  rw [Ac2,ma0 rfl b]
  exact jK0 C pl rs (.sh (rowT r)) λq hq=>h q (.tail _ hq)
theorem gJ0 (C:Addr)(h:∀r∈plan,r.length<=1000):j3 C [bs0 plan]=some (false,.bl true):=by
 obtain⟨x',l⟩:=jK0 C (bs0 plan) plan .un h
 unfold j3 xe0
 refine Eq.trans (aL0 (ε:=[.sh (bs0 plan),.un]) rfl rfl) ?_
 refine Eq.trans (cg0 (ε1:=[.sh (bs0 plan),.un]) rfl) ?_
 refine Eq.trans (cg0 (cy0 (ts:=plan.map rowT) rfl l)) ?_
 rfl
theorem hw0:∀{plan:List (List Nat)} {s t:Stt},GoesTo p s plan t->Goes p s plan/\endM p s plan=t
 | [],_,_,h=>⟨trivial,h⟩
 |_::_,_,_,⟨a,b⟩=>let ⟨x,y⟩:=hw0 b; ⟨⟨a,x⟩,y⟩
theorem GoesTo.app (h2:GoesTo p t b u):∀{a:List (List Nat)} {s:Stt},GoesTo p s a t->GoesTo p s (a++b) u
 | [],_,h=>by cases h; exact h2
 |_::_,_,⟨x,y⟩=>⟨x,h2.app y⟩
theorem GoesTo.reach:∀{a:List (List Nat)} {s t:Stt},GoesTo p s a t->Reach p s->Reach p t
 | [],_,_,h,r=>by cases h; exact r
 |_::_,_,_,⟨x,y⟩,r=>y.reach (.step r x)
theorem cN0 {f:BD.T->BD.T->Option Bool}:∀(ts:List BD.T),(∀t∈ts,f t t=some true)->eqLW f ts ts=some true
 | [],_=>rfl
 |t::ts,h=>by
  unfold eqLW
  rw [h t (.head _),Aa2,cN0 ts λu hu=>h u (.tail _ hu)]
  rfl
theorem lw0 (n:Nat)(s:Stt):eqT (n+4) (as0 s) (as0 s)=some true:=by
 show eqLW (eqT (n+3)) (s.map bedT) (s.map bedT)=_
 refine cN0 _ λt ht=> ?_
 obtain⟨b,_,rfl⟩:=Ac0.mp ht
 show eqLW (eqT (n+2)) [.int b.1,rowT b.2] [.int b.1,rowT b.2]=_
 refine cN0 _ λt ht=> ?_
 rcases Ab2.mp ht with rfl|ht
 ·rw [iB0,Ad9 rfl]
 ·rw [Aa6.mp ht,gx0,Ad9 rfl]
theorem iA0 (s:Stt):φEq (as0 s) (as0 s)=some (.bl true):=by
 unfold φEq
 rw [show aZ0 (as0 s)=false from rfl,lw0 5]
 rfl
theorem qV0 {f g:En->Option BD.T}(h1:f ε=some (.bl true))(h2:g ε=some (.bl b)):eAnd f g ε=some (.bl b):=by
 unfold eAnd
 rw [h1,h2]
 rfl
theorem lP0 {f:En->Option BD.T}(h:f ε=some (.lst ts)):ay0 φLen (aa0 f aNil) ε=some (.int ts.length):=by
 show (aa0 f aNil ε).bind φLen=_
 rw [aB0 h rfl]
 rfl
section
variable (C:Addr){p:Plot}(hp:Tight p)
include hp
theorem hU0 (g1:GoesTo p (aE0 p) pl1 s)(g2:GoesTo p s pl2 s)(ne:pl2≠ [])(h1:∀r∈pl1,r.length<=1000)(h2:∀r∈pl2,r.length<=1000)(hl:pl2.length<5000):W8 C [aD0 p,.tup [bs0 pl1,bs0 pl2]]=some (false,.bl true):=by
 have rs:=g1.reach .start
 obtain⟨a1,q1⟩:=hw0 g1
 obtain⟨a2,q2⟩:=hw0 g2
 obtain⟨a3,q3⟩:=hw0 (g2.app g2)
 have k1:=gq0 C hp .start a1
 have k2:=gq0 C hp rs a2
 have k3:=gq0 C hp rs a3
 rw [q1] at k1
 rw [q2] at k2
 rw [q3] at k3
 have ix:∀(i:Nat) (z:BD.T) (x:Sl),[bs0 pl1,bs0 pl2][i]?=some z->e2 φIx (bVar 1) (eC (.int i)) [.sh (aD0 p),.sh (.tup [bs0 pl1,bs0 pl2]),x]=some z:=λi z x h=>(av0 (φ:=φIx) (s:=.tup [bs0 pl1,bs0 pl2]) (t:=.int i) rfl rfl).trans (show φIx (.tup [bs0 pl1,bs0 pl2]) (.int i)=_ from atI_nat h)
 have nn:∀(i:Nat) (pl:List (List Nat)),[bs0 pl1,bs0 pl2][i]?=some (bs0 pl)->(∀r∈pl,r.length<=1000)->qNot (qB (eFn (j3 C) (aa0 (e2 φIx (bVar 1) (eC (.int i))) aNil))) [.sh (aD0 p),.sh (.tup [bs0 pl1,bs0 pl2]),.un]=some false:=λi pl h hr=>by
  unfold qNot
  rw [cK0 (eg0 (ix i _ .un h) (gJ0 C hr))]
  rfl
 unfold W8 Ze0
 refine Eq.trans (aL0 (ε:=[.sh (aD0 p),.sh (.tup [bs0 pl1,bs0 pl2]),.un]) rfl rfl) ?_
 refine Eq.trans (cg0 (dH0 (eQ0 rfl (eQ0 rfl (eQ0 (nn 0 pl1 rfl h1) (nn 1 pl2 rfl h2)))))) ?_
 refine Eq.trans (cg0 (aU0 (fj0 (s:=aD0 p) rfl (eg0 rfl (dx0 C p (by have:=hp.beds; omega))) (ix 0 _ .un rfl) k1))) ?_
 refine Eq.trans (cg0 (dH0 (eQ0 rfl ?_))) ?_
 ·refine cK0 ((av0 (s:=.int pl2.length) (t:=.int 0) ?_ rfl).trans ?_)
  ·exact(lP0 (ts:=pl2.map rowT) (ix 1 (bs0 pl2) (.sh (as0 s)) rfl)).trans (by rw [Aa1])
  ·rw [eqI,Ad3]
   intro z
   exact ne (Ae2 (by omega))
 ·refine fg0 (qV0 ((av0 (fj0 (s:=aD0 p) (t:=as0 s) rfl rfl (ix 1 _ _ rfl) k2) rfl).trans (iA0 s)) ((av0 (fj0 (s:=aD0 p) (t:=as0 s) rfl rfl ?_ k3) rfl).trans (iA0 s)))
  refine(av0 (ix 1 _ _ rfl) (ix 1 _ _ rfl)).trans ?_
  show (if(pl2.map rowT).length+(pl2.map rowT).length<=big then some (BD.T.lst (pl2.map rowT++pl2.map rowT)) else none)=_
  rw [if_pos (by rw [Aa1]; exact Ac6 (by omega) (show 10000<=big by decide)),<- Ac3]
  rfl
end
theorem nZ0 {gs:List BD.T->Option (Bool × BD.T)}{E:En->Option BD.T}(hE:E ε=some s)(hp:gs [s]=some (true,u)):eFnF gs (aa0 E aNil) ε=some u:=by
 unfold eFnF
 rw [aB0 hE rfl,Aa2,hp]
def lawT:List BD.T->Option (Bool × BD.T):=λts=>match ts with| [.scr _]=>some (false,.bl true)|_=>none
theorem mg0 (n:Nat):∀plan:List (List Nat),eqLW (eqT (n+2)) (plan.map rowT) (plan.map rowT)=some true
 | []=>rfl
 |r::rs=>by
  rw [Ac2]
  unfold eqLW
  rw [gx0,mg0 n rs,Ad9 rfl]
  rfl
theorem qN0 (plan:List (List Nat)):eqT 9 (bs0 plan) (bs0 plan)=some true:=mg0 6 plan
theorem ff0 (hp:Tight p):∀{plan:List (List Nat)} {s:Stt},Reach p s->Goes p s plan->∀r∈plan,r.length<=1000
 | [],_,_,_,_,h=>nomatch h
 |q::rs,s,hs,⟨hr,hg⟩,r,h=>by
  rcases Ab2.mp h with rfl|h
  ·have:=(hs.small hp).1
   rw [(fh0 hr).1]
   omega
  ·exact ff0 hp (.step hs hr) hg r h
theorem fc0 (hp:Tight p)(hs:Reach p s)(h:GoesTo p s plan t):∀r∈plan,r.length<=1000:=ff0 hp hs (hw0 h).1
theorem lx0 {q:En->Option Bool}(h:q ε=some b):qNot q ε=some (!b):=by unfold qNot; rw [h]; rfl
theorem neI0 (i:Int):φNe (.int i) (.int i)=some (.bl false):=by
 show some (BD.T.bl (!decide (V.int i=V.int i)))=_
 rw [Ad9 rfl]
 rfl
theorem nX0 {P:Nat->Bool}(e:((List.range N).filter P).map (λk:Nat=>(0+(k:Int)))=n::ns):∃m:Nat,maxI n ns=(m:Int)/\m<N/\P m=true/\∀k,k<N->P k=true->k<=m:=by
 have h1:=ga0 ns n
 have h2:=ib0 ns n
 rw [<- e] at h1 h2
 obtain⟨m,hm,em⟩:=Ac0.mp h1
 obtain⟨a,b⟩:=Ai8.mp hm
 refine⟨m,by rw [<- em]; omega,Ag5.mp a,b,λk hk pk=> ?_⟩
 have:=h2 _ (Ac0.mpr ⟨k,Ai8.mpr ⟨Ag5.mpr hk,pk⟩,rfl⟩)
 rw [<- em] at this
 omega
inductive Shs (F:Addr->Prop) (H:Hp):L2.St->List (Option BD.T)->Prop
 |nil:Shs F H [] []
 |no {o:Option V} {σ:L2.St} {ws:List (Option BD.T)} (h:Shs F H σ ws):Shs F H (o::σ) (none::ws)
 |yes {v:V} {t:BD.T} {σ:L2.St} {ws:List (Option BD.T)} (r:Rp F H v t) (h:Shs F H σ ws):Shs F H (some v::σ) (some t::ws)
theorem Shs.len {F:Addr->Prop}(h:Shs F H σ ws):σ.length=ws.length:=by
 induction h with
 |nil=>rfl
 |no _ ih|yes _ _ ih=>rw [Ac4,Ac4,ih]
theorem Shs.get {F:Addr->Prop}(h:Shs F H σ ws):∀(i:Nat) t,ws[i]?=some (some t)->∃v,σ[i]?=some (some v)/\Rp F H v t:=by
 induction h with
 |nil=>intro i t e; cases e
 |no _ ih=>intro i t e; cases i with|zero=>cases e|succ i=>exact ih i t e
 |yes r _ ih=>intro i t e; cases i with|zero=>cases e; exact⟨_,rfl,r⟩|succ i=>exact ih i t e
theorem Shs.keep {F F':Addr->Prop}(k:Keep F H F' H')(h:Shs F H σ ws):Shs F' H' σ ws:=by
 induction h with
 |nil=>exact .nil
 |no _ ih=>exact .no ih
 |yes r _ ih=>exact .yes (r.keep k) ih
theorem Shs.rel {F:Addr->Prop}(h:Shs F H σ ws)(tk:Trk F H):Rel Y0 F (shO ws) σ H:=re0 tk h.len h.get
theorem _root_.L2.BD.Mono.frz {F F1:Addr->Prop}{H H1:Hp}(m:Mono F H F1 H1)(n:H a=none)(t:∃o,H1 a=some o):Mono F H (λb=>F1 b\/ b=a) H1:=
 ⟨m.ext,λx h=> .inl (m.sub x h),λx h=>h.elim (m.new x) λe=> .inr (e▸n),λx h=>h.elim (m.trk x) λe=>e▸t⟩
theorem rx0 {σ:L2.St}{k:L2.St->Hp->Prop}(h:k (σ.set i (some v)) H):cr0 i v σ H k:=h
theorem r_CB {r:List V->Hp->VK->Prop}{t:TA}(h:t σ H λvs H1=>r vs H1 Q):tCB r t σ H Q:=h
section
variable {P:Program}{w:World}{K:Aa3}{mg:Str->Option Value}{base:Heap}{C CWeb f:Addr}{fd:FuncData}
theorem zt0 (Fn:Fun K "law" "law" X0 f fd) (T:Txt K mg C CWeb) (Z7:bj0 P w K mg base 3 "_law_beds" Qc0 (j8 C)) (Q7:bj0 P w K mg base 4 "_law_garden" Vc0 (Z8 C)) (J7:bj0 P w K mg base 1 "_law_handed" qd0 (Q8 C))
  (y7:qE0 P w K mg base C 5 "Garden" jb0 (Q4 C)) (y3:bj0 P w K mg base 1 "_law_start" K8 (Q3 C)) (Y1:bj0 P w K mg base 3 "_law_gone" qe0 (X2 C)) (Z3:bj0 P w K mg base 2 "_law_numbers" ye0 (j3 C)) (Y3:bj0 P w K mg base 1 "_law_whole" ke0 (V1 C)) (K7:bj0 P w K mg base 4 "_law_round" he0 (W8 C))
  (D4:∀p,Tight p->DfOk P w K mg base 3 "_law_states" Z9 (pm0 p)) (D5:∀p,Tight p->DfOk P w K mg base 1 "_law_layers" J9 (pk0 p)) (D6:∀p,Tight p->DfOk P w K mg base 9 "plan_for" w9 (ni0 C p)) (D7:∀p,Tight p->DfOk P w K mg base 9 "endless" y9 (lm0 C p)) (D8:∀p,Tight p->DfOk P w K mg base 9 "longest" v9 (mk0 C p)):
  FnOk P w K mg base CX0 10 f fd Zf0 (spP lawT):=by
 have sc:=qn0
 refine Fn.ok sc (λvs H Q E h=> ?_) λcdv Ar outer s H vs Q E hr h=> ?_
 ·obtain⟨F,ts,o,t,_,r,e,_⟩:=h
  rw [r.length]
  unfold lawT at e
  split at e
  ·rfl
  ·cases e
 obtain⟨F,ts,o,t,tk,r,e,q⟩:=h
 obtain⟨ns,rfl,rfl,rfl⟩:∃ns,ts=[.scr ns]/\o=false/\t=.bl true:=by
  unfold lawT at e
  split at e
  ·cases e; exact⟨_,rfl,rfl,rfl⟩
  ·cases e
 obtain⟨b,hb,eb⟩:=kZ0 C ns
 obtain⟨p,ep,hp0,hpl,hpm⟩:=is0 C ns b hb
 have hp:Tight p:=⟨hp0,hpm⟩
 obtain⟨f4,d4,F4,m4,k4,B4⟩:=D4 p hp
 obtain⟨f5,d5,F5,m5,k5,B5⟩:=D5 p hp
 obtain⟨f6,d6,F6,m6,k6,B6⟩:=D6 p hp
 obtain⟨f7,d7,F7,m7,k7,B7⟩:=D7 p hp
 obtain⟨f8,d8,F8,m8,k8,B8⟩:=D8 p hp
 refine⟨_,am0 (bb0 (Y:=⟨H,F,λ_=>True,λ_ _=>False⟩) (i:=1) sc.nd rfl (Or.inl rfl) (aH0 Q7 hr.mono (by rfl) (ab0 (ak0 (pv 0)) (ab0 (aH0 Z7 hr.mono (by rfl) (ab0 (ak0 (pv 0)) (ab0 af0 ap0))) ap0))))
  (am0 (bb0 (Y:=⟨H,F,λ_=>True,λ_ _=>False⟩) (i:=2) sc.nd rfl (Or.inl rfl) (cH0 (eP0 J7 hr.mono (by rfl) (ab0 (ak0 (pv 1)) ap0))))
  (am0 (bb0 (Y:=⟨H,F,λ_=>True,λ_ _=>False⟩) (i:=3) sc.nd rfl (Or.inl rfl) (cH0 (fe_mk y7 hr.mono (by rfl) (ab0 (az0 (ac0 (pv 2)) (ae0 af0)) (ab0 (az0 (ac0 (pv 2)) (ae0 af0)) (ab0 (az0 (ac0 (pv 2)) (ae0 af0)) (ab0 (az0 (ac0 (pv 2)) (ae0 af0)) ap0)))))))
  (am0 (bb0 (Y:=⟨H,F,λ_=>True,λ_ _=>False⟩) (i:=4) sc.nd rfl (Or.inr rfl) (aH0 y3 hr.mono (by rfl) (ab0 (ak0 (pv 1)) ap0)))
  (am0 (bA0 (i:=5) sc.nd rfl (Or.inl rfl) (bL0 F4 hr.mono (by rfl) m4 k4 B4 .nil bf0 (ao0 (pv 1) ax0)))
  (am0 (os0 (bA0 (i:=6) sc.nd rfl (Or.inr rfl) (bL0 F5 hr.mono (by rfl) m5 k5 B5 .nil bf0 (ao0 (pv 5) (ao0 (kV0 gT0 (bV0 gZ0 (by rfl) T.x0 Al6 (ao0 (pv 5) ax0)) cC0) ax0)))))
  (am0 (bA0 (i:=7) sc.nd rfl (Or.inl rfl) (bV0 (hG0 rfl) (by rfl) T.V6 (by rfl) (ao0
    (ej0 (g:=cr0 0) (tt:=tB (tDIn (tVar 5) (tOp (rIxL K) (tVar 7) (tVar 0)))) (te:=tVar 0) (own:=["k"]) rfl (cc0 hf0 (ad0 X0) rfl rfl (by decide +kernel))
     (eX0 (by rfl) T.Z1 (ao0 (bV0 bX0 (by rfl) T.x0 Al6 (ao0 (pv 6) ax0)) ax0))
     (λ_ _ _ _=>at0 (i:=0) (bM0 ((["k"]:List Str)++hide ["k"] hf0) rfl (by decide +kernel)) rfl (Or.inl rfl))
     (λ_ _ _ _=>hV0 (dL0 (oZ0 (ce0 hr) (pv 5) (gy0 ix_list (pv 7) (pv 0) (λ_ _=>rfl))) rfl))
     (λ_ _ _ _=>pv 0)) ax0)))
  (am0 (bA0 (i:=8) sc.nd rfl (Or.inl rfl) (bL0 F7 hr.mono (by rfl) m7 k7 B7 .nil bf0 (ao0 (pv 3) ax0)))
  (am0 (bA0 (i:=9) sc.nd rfl (Or.inl rfl) (bL0 F8 hr.mono (by rfl) m8 k8 B8 .nil bf0 (ao0 (pv 3) ax0)))
  (am0 (cM0 (eY0 op_gt (pv 7) (bV0 gZ0 (by rfl) T.x0 Al6 (ao0 (pv 5) ax0)) (cZ0 _))
    (aw0 (aW0 (iH0 (lF0 (oE0 (pv 9))) (jS0 (aH0 (Y:=Y0) K7 hr.mono (by rfl) (ab0 (ak0 (pv 1)) (ab0 (ak0 (pv 8)) ap0))))))) bq0)
  (am0 (cM0 (qt_w (Y:=Y0) (di0 (qx0 (ac0 (pv 8)) (ae0 mG0)) (di0 (bN0 (bx0 (dk0 (n:= "tuple") (x:= "tuple") .tuple (by rfl) T.J0 (by rfl) T.Q0 (by rfl) (ac0 (pv 9))))) (di0 (iv0 (hu20 hr) (ae0 (bZ0 (by rfl) T.x0 (ar0 (ac0 (pv 9)) aF0))) (ae0 af0)) (cO0 (bN0 (bx0 (aH0 Y3 hr.mono (by rfl) (ab0 (az0 (ac0 (pv 9)) (ae0 af0)) ap0))))))))) (aw0 (aW0 ew0)) bq0)
  (am0 (cM0 (qt_w (Y:=Y0) (di0 (iv0 (hu20 hr) (ae0 (az0 (ac0 (pv 9)) (ae0 af0))) (ac0 (pv 7))) (di0 (bN0 (bx0 (aH0 Z3 hr.mono (by rfl) (ab0 (az0 (ac0 (pv 9)) (ae0 af0)) ap0)))) (cO0 (iv0 (hu20 hr) (ae0 (bZ0 (by rfl) T.x0 (ar0 (ae0 (az0 (ac0 (pv 9)) (ae0 af0))) aF0))) (ac0 (pv 7))))))) (aw0 (aW0 ew0)) bq0)
  (aw0 (aW0 (iH0 (lF0 (ie0 (aH0 (Y:=Y0) Y1 hr.mono (by rfl) (ab0 (ak0 (pv 1)) (ab0 (ak0 (pv 4)) (ab0 (az0 (ac0 (pv 9)) (ae0 af0)) ap0))))))
   (jS0 (hS0 (lY0 (hu20 hr)) (bL0 F6 hr.mono (by rfl) m6 k6 B6 .nil bf0 (ao0 (pv 3) (ao0 (pv 7) ax0))) (gy0 L2.ix_tup (pv 9) cC0 (λ_ _=>rfl)) (cZ0 _))))))))))))))))),?_⟩
 obtain⟨sv,rfl,rs⟩:=r.one
 have hb3:=hp.beds
 have a0:φIx (ef0 p) (.int 0)=some (.lst (p.soils.map .int)):=et0 _ 0 _ rfl
 have a1:φIx (ef0 p) (.int 1)=some (.int p.top):=et0 _ 1 _ rfl
 have a2:φIx (ef0 p) (.int 2)=some (.lst (p.crops.map au0)):=et0 _ 2 _ rfl
 have a3:φIx (ef0 p) (.int 3)=some (aP0 p.wants):=et0 _ 3 _ rfl
 have mk:lr0 C (Q4 C) (aa0 (e2 φIx (bVar 2) (eC (.int 0))) (aa0 (e2 φIx (bVar 2) (eC (.int 1))) (aa0 (e2 φIx (bVar 2) (eC (.int 2))) (aa0 (e2 φIx (bVar 2) (eC (.int 3))) aNil)))) [.sh (scrT ns),.sh (aD0 p),.sh (ef0 p),.un,.un,.un,.un,.un,.un,.un]=some (garT C p):=by
  unfold lr0
  rw [aB0 ((av0 (s:=ef0 p) rfl rfl).trans a0) (aB0 ((av0 (s:=ef0 p) rfl rfl).trans a1) (aB0 ((av0 (s:=ef0 p) rfl rfl).trans a2) (aB0 ((av0 (s:=ef0 p) rfl rfl).trans a3) rfl))),Aa2,pG0 C p hp.toBound]
  rfl
 refine⟨F,[.sh (scrT ns),.un,.un,.un,.un,.un,.un,.un,.un,.un],.nx [.sh (scrT ns),.sh (aD0 p),.un,.un,.un,.un,.un,.un,.un,.un],fp0 (N:=hf0) tk (.cons rs .nil),aU0 (co0 rfl (co0 rfl rfl eb) ep),λFa σa Ha ka ra=> ?_⟩
 refine⟨Fa,_,.nx [.sh (scrT ns),.sh (aD0 p),.sh (ef0 p),.un,.un,.un,.un,.un,.un,.un],ra,aU0 (nZ0 rfl (mJ0 C p hp.few)),λFb σb Hb kb rb=> ?_⟩
 refine⟨Fb,_,.nx [.sh (scrT ns),.sh (aD0 p),.sh (ef0 p),.sh (garT C p),.un,.un,.un,.un,.un,.un],rb,aU0 mk,λFc σc Hc kc rc=> ?_⟩
 refine⟨Fc,_,.nx [.sh (scrT ns),.sh (aD0 p),.sh (ef0 p),.sh (garT C p),.sh (as0 (aE0 p)),.un,.un,.un,.un,.un],rc,aU0 (eg0 rfl (dx0 C p (by omega))),λF3 σ3 H3 k3' r3=> ?_⟩
 have m03:Mono F H F3 H3:=⟨r3.same,r3.sub,r3.new,r3.trk⟩
 obtain⟨plv,e1,rpl⟩:=r3.sh 1 (aD0 p) rfl
 obtain⟨gv,e3,rg⟩:=r3.sh 3 (garT C p) rfl
 obtain⟨stv,e4,rst⟩:=r3.sh 4 (as0 (aE0 p)) rfl
 have l3:σ3.length=10:=r3.len.symm
 clear k3' r3 rc kc rb kb ra ka mk a0 a1 a2 a3
 match σ3,l3 with
 | [z0,z1,z2,z3,z4,z5,z6,z7,z8,z9],_=>
 obtain rfl:z1=some plv:=Option.some.inj e1
 obtain rfl:z3=some gv:=Option.some.inj e3
 obtain rfl:z4=some stv:=Option.some.inj e4
 refine⟨_,rfl,F3,plv,rfl,m03.trk,rpl,λF4 H4 dd kd sd m34 hdd nfd hd4 ndd alld told4=> ?_⟩
 have hdd0:H dd=none:=(m03.chg (L:=[])).bk hdd
 refine⟨dd,kd,hd4,hdd0,λob=> ?_⟩
 have c5:Chg [dd] F4 H4 F4 (upd H4 dd (.frz ob (.dT kd))):=.write m34.trk (.head _) (by rw [hd4]; exact nofun)
 have lo5:dF0 [dd] F4 H4:=λa ha=>by rw [Aa6.mp ha]; exact⟨nfd,λxs z=>by rw [hd4] at z; cases z⟩
 have hd5:upd H4 dd (.frz ob (.dT kd)) dd=some (.frz ob (.dT kd)):=ag0
 have k45:=c5.keep lo5
 have m05:Mono F H F4 (upd H4 dd (.frz ob (.dT kd))):=(((m03.trans m34).chg (L:=[dd])).trans c5).toMono λa ha=>by rw [Aa6.mp ha]; exact hdd0
 have told5:=told4.keep k45
 have rpl5:=(rpl.keep m34.keep).keep k45
 have rg5:=(rg.keep m34.keep).keep k45
 have rst5:=(rst.keep m34.keep).keep k45
 generalize upd H4 dd (.frz ob (.dT kd))=H5 at c5 hd5 k45 m05 told5 rpl5 rg5 rst5 ⊢
 have lN:=jY0 told5
 have fN:sd.length<=1300:=bz0 hp ndd λs hs=>(alld s).mp hs
 refine⟨_,rfl,_,rfl,dd,kd,rfl,.inr ⟨_,hd5⟩,_,_,rfl,rfl,F4,dd,ob,kd,sd,kd.length+1,rfl,m05.trk,hd5,told5,ndd,alld,by omega,λH6 la ls m56 nla hla lls lay=> ?_⟩
 have hd6:=m56.ext _ _ hd5
 have rpl6:=rpl5.keep m56.keep
 have rg6:=rg5.keep m56.keep
 have rst6:=rst5.keep m56.keep
 have m06:=m05.trans m56
 have stm:aE0 p∈sd:=(alld _).mpr .start
 obtain⟨bst,rfl,kst⟩:=gM0 rst6
 dsimp only
 refine rx0 (oe0 (r_set (r_CB (pg0 (lf0 ⟨_,rfl,la,_,rfl,.inl (SqL.of hla),_,rfl,?_,?_,?_⟩)))))
 ·rw [Aa1,lls]; omega
 ·rw [Aa1,lls]; omega
 rw [Ac9,Aa1,lls]
 refine gB0 (rs:=List.range (kd.length+1+1)) (tr:=λk:Nat=>BD.T.int (0+(k:Int))) (P:=λk=>(aT0 p k (aE0 p)).isSome) (eu0 0 _) m06.trk (by rw [Ag8]; omega) ?_ ?_
 ·intro k hk F5 H5 x R N' m5 rx hT hF
  have hk:=Ag5.mp hk
  cases rx
  obtain⟨lk,elk⟩:∃lk,ls[k]?=some lk:=⟨_,Aa4 (by omega)⟩
  obtain⟨lvk,hlk,flk⟩:=lay k lk elk
  refine⟨rfl,_,rfl,_,rfl,_,rfl,la,_,_,.ref lk,rfl,rfl,SqL.of (m5.ext _ _ hla),?_,lk,_,rfl,DGet.t (m5.ext _ _ hlk) (kst.keeps λb xs e=>m5.ext _ _ e),_,rfl,?_⟩
  ·show atI _ (0+(k:Int))=_
   rw [Aq6]
   exact atI_nat (by rw [Ab0,elk]; rfl)
  ·have e:(valV lvk (keyS (aE0 p))).isSome=(aT0 p k (aE0 p)).isSome:=by
    rw [Ak0,flk,<- can_iff]
    exact⟨λz=>z.2,λz=>⟨stm,z⟩⟩
   rw [e]
   cases hb:(aT0 p k (aE0 p)).isSome with
   |true=>exact iteT ⟨_,rfl,hT hb⟩
   |false=>exact iteF (hF hb)
 intro F7 H7 ml zs m67 hml rzs
 have ez:=gh0 (ns:=((List.range (kd.length+1+1)).filter λk=>(aT0 p k (aE0 p)).isSome).map λk:Nat=>(0+(k:Int))) (by rw [Ad2]; exact rzs)
 subst ez
 cases eg:((List.range (kd.length+1+1)).filter λk=>(aT0 p k (aE0 p)).isSome).map λk:Nat=>(0+(k:Int)) with
 |nil=>
  have:(0:Nat)∈(List.range (kd.length+1+1)).filter λk=>(aT0 p k (aE0 p)).isSome:=Ai8.mpr ⟨Ag5.mpr (by omega),rfl⟩
  rw [List.map_eq_nil_iff.mp eg] at this
  exact nomatch this
 |cons n ns=>
 rw [eg] at rzs
 obtain⟨m,em,hm1,hm2,hm3⟩:=nX0 eg
 have hm2:Can p m (aE0 p):=can_iff.mpr hm2
 have hm3:∀k,k<kd.length+1+1->Can p k (aE0 p)->k<=m:=λk hk c=>hm3 k hk (can_iff.mp c)
 have m78:Mono F7 H7 F7 (upd H7 ml (.lst ((n::ns).map V.int))):=.laid m67.trk hml
 have hm8:upd H7 ml (.lst ((n::ns).map V.int)) ml=some (.lst ((n::ns).map V.int)):=ag0
 generalize upd H7 ml (.lst ((n::ns).map V.int))=H8 at m78 hm8 ⊢
 have m68:=m67.trans m78
 have m08:=m06.trans m68
 refine⟨ml,n,ns,rfl,.inl (SqL.of hm8),?_⟩
 rw [em]
 have rg8:=rg6.keep m68.keep
 have rpl8:=rpl6.keep m68.keep
 have rst8:=rst6.keep m68.keep
 have hd8:=m68.ext _ _ hd6
 refine⟨_,rfl,F7,gv,rfl,m78.trk,rg8,λF9 H9 h m89 hg=> ?_,λF9 H9 a y1 y2 xs1 xs2 pl1 pl2 s m89 ha n1 n2 ne nf1 nf2 hy1 hy2 r1 r2 g1 g2 gn gl al=> ?_⟩
 ·refine⟨_,rfl,F9,gv,rfl,m89.trk,rg8.keep m89.keep,λFx Hx mx al=>absurd (al (h+1)) hg.2,λFx Hx a h' ya xs plan mx ha nya nfy hya rxs hg' hh ef=> ?_⟩
  have eh:=hg.one hg'
  subst eh
  have hlt:h<kd.length:=by
   obtain⟨l,e,nd,al⟩:=gt0 .start hg
   have:=nd.length_le_of_subset (l₂:=sd) λx hx=>(alld x).mpr (al x hx).1
   omega
  have emh:m=h:=by
   have:=hg.le hm2
   have:=hm3 h (by omega) hg.1
   omega
  subst emh
  have m8x:=m89.trans mx
  have hdx:=m8x.ext _ _ hd8
  refine⟨_,rfl,_,rfl,dd,kd,rfl,.inr ⟨_,hdx⟩,_,_,rfl,rfl,_,rfl,?_⟩
  rw [Ad3 (show¬(kd.length:Int)<(m:Int) by omega)]
  refine iteF ?_
  have mz:=m8x.frz ((m89.chg (L:=[])).bk nya) ⟨_,hya⟩
  have rfy:Rp (λb=>Fx b\/ b=ya) Hx (.ref ya) (bs0 plan):=.lst (.inr rfl) hya (rxs.keep Keep.freeze)
  have rf:Rp (λb=>Fx b\/ b=ya) Hx (.ref a) (.tup [.int (m:Int),bs0 plan]):=.tup ha (.cons (.int _) (.cons rfy .nil))
  have sh:Shs (λb=>Fx b\/ b=ya) Hx [z0,some plv,z2,some gv,some (.ref bst),some (.ref dd),some (.ref la),some (.int (m:Int)),some .non,some (.ref a)] [none,some (aD0 p),none,some (garT C p),some (as0 (aE0 p)),none,none,some (.int (m:Int)),some .non,some (.tup [.int (m:Int),bs0 plan])]:=
   .no (.yes (rpl8.keep mz.keep) (.no (.yes (rg8.keep mz.keep) (.yes (rst8.keep mz.keep) (.no (.no (.yes (.int _) (.yes .non (.yes rf .nil)))))))))
  have goes:=fG0 ef
  have lpl:=gQ0 ef
  have rows:=ff0 hp .start goes
  refine⟨_,_,false,sh.rel mz.trk,eQ0 rfl (eQ0 rfl (eQ0 rfl (lx0 (cK0 (eg0 rfl (jO0 C m)))))),λFa Ha ma=>iteF ?_⟩
  have sh:=sh.keep ma.keep
  have len:ay0 φLen (aa0 (e2 φIx (bVar 9) (eC (.int 1))) aNil) (shO [none,some (aD0 p),none,some (garT C p),some (as0 (aE0 p)),none,none,some (.int (m:Int)),some .non,some (.tup [.int (m:Int),bs0 plan])])=some (.int (m:Int)):=(lP0 (ts:=plan.map rowT) rfl).trans (by rw [Aa1,lpl])
  refine⟨_,_,false,sh.rel ma.trk,eQ0 (cK0 ((av0 (s:=.int (m:Int)) (t:=.int (m:Int)) rfl rfl).trans (neI0 _))) (eQ0 (lx0 (cK0 (eg0 rfl (gJ0 C rows)))) (cK0 ((av0 len rfl).trans (neI0 _)))),λFb Hb mb=>iteF ?_⟩
  have sh:=sh.keep mb.keep
  refine⟨_,_,_,sh.rel mb.trk,fj0 rfl rfl rfl (gq0 C hp .start goes),λFg vg Hg mg' rvg=> ?_⟩
  obtain⟨bg,rfl,_⟩:=gM0 (show Rp Fg Hg vg (as0 (endM p (aE0 p) plan)) from rvg)
  have mzg:=((ma.trans mb).trans mg')
  have m8g:=mz.trans mzg
  refine⟨true,rfl,iteT ?_⟩
  refine⟨_,rfl,_,rfl,Fg,gv,m,rfl,mg'.trk,rg8.keep m8g.keep,by omega,λF' H' m' nc=>absurd hg.1 nc,λFy Hy yb xb planb my nyb nfb hyb rxb efb=> ?_⟩
  rw [ef] at efb
  cases efb
  refine⟨_,rfl,_,_,1,_,rfl,rfl,SqT.of (my.ext _ _ (mzg.ext _ _ ha)),rfl,Fy,bs0 plan,bs0 plan,true,.o (.lst hyb rxb),.v ((rfy.keep mzg.keep).keep my.keep),rfl,qN0 plan,q Fy _ Hy ((m08.trans m8g).trans my) (show Rp Fy Hy (.bl true) (.bl true) from .bl true)⟩
 ·refine⟨_,rfl,F9,gv,rfl,m89.trk,rg8.keep m89.keep,λFx Hx mx _=> ?_,λFx Hx a h' ya xs plan mx ha nya nfy hya rxs hg' hh ef=>absurd (al (h'+1)) hg'.2⟩
  have hm4:=hm3 (kd.length+1) (by omega) (al _)
  have m8x:=m89.trans mx
  have hdx:=m8x.ext _ _ hd8
  refine⟨_,rfl,_,rfl,dd,kd,rfl,.inr ⟨_,hdx⟩,_,_,rfl,rfl,_,rfl,?_⟩
  rw [Ad9 (show (kd.length:Int)<(m:Int) by omega)]
  refine iteT ⟨_,rfl,_,rfl,iteT ?_⟩
  have hy1x:=mx.ext _ _ hy1
  have hy2x:=mx.ext _ _ hy2
  have mz:=(m8x.frz n1 ⟨_,hy1x⟩).frz n2 ⟨_,hy2x⟩
  have kz:Keep F9 H9 (λb=>(Fx b\/ b=y1)\/ b=y2) Hx:=(mx.keep.trans Keep.freeze).trans Keep.freeze
  have rt:Rp (λb=>(Fx b\/ b=y1)\/ b=y2) Hx (.ref a) (.tup [bs0 pl1,bs0 pl2]):=.tup (mx.ext _ _ ha) (.cons (.lst (.inl (.inr rfl)) hy1x (r1.keep kz)) (.cons (.lst (.inr rfl) hy2x (r2.keep kz)) .nil))
  have sh:Shs (λb=>(Fx b\/ b=y1)\/ b=y2) Hx [z0,some plv,z2,some gv,some (.ref bst),some (.ref dd),some (.ref la),some (.int (m:Int)),some (.ref a),some .non] [none,some (aD0 p),none,none,none,none,none,none,some (.tup [bs0 pl1,bs0 pl2]),none]:=
   .no (.yes (rpl8.keep mz.keep) (.no (.no (.no (.no (.no (.no (.yes rt (.no .nil)))))))))
  refine⟨_,_,_,sh.rel mz.trk,co0 rfl rfl (hU0 C hp g1 g2 gn (fc0 hp .start g1) (fc0 hp (g1.reach .start) g2) (by omega)),λF' v H' m' r=>q F' v H' ((m08.trans mz).trans m') r⟩
end
structure Ats (K:Aa3)(mg:Str->Option Value)(C CWeb CTrail:Addr):Prop extends Ats0 K mg C where
 qt0:cR0 K CWeb "number_of" "Web.number_of" Je0 V5
 jt0:cR0 K CWeb "worked_out" "Web.worked_out" We0 Y8
 kt0:cR0 K CWeb "moves_of" "Web.moves_of" Ke0 Y5
 wt0:of0 K mg CWeb "Web" "Web.__init__" Qe0 V8
 vt0:cR0 K CTrail "begin" "Trail.begin" Ye0 X5
 yt0:of0 K mg CTrail "Trail" "Trail.__init__" Ve0 J3
 xt0:cR0 K CTrail "last" "Trail.last" Xe0 j6
 Zt0:cR0 K CTrail "is_worth_trying" "Trail.is_worth_trying" qf0 q9
 Qt0:cR0 K CTrail "step" "Trail.step" zf0 w6
 Jt0:cR0 K CTrail "turn_back" "Trail.turn_back" j9 y6
 wk0:cR0 K CTrail "go_on" "Trail.go_on" X8 v3
 Kt0:bv0 K mg "first_plan" "first_plan" kf0 Z6
 Wt0:bv0 K mg "plan_for" "plan_for" wf0 w9
 Vt0:bv0 K mg "round_place" "round_place" vf0 Q6
 Yt0:bv0 K mg "longest" "longest" yf0 v9
 Xt0:bv0 K mg "endless" "endless" xf0 y9
 zu0:bv0 K mg "_law_states" "_law_states" J6 Z9
 qu0:bv0 K mg "_law_layers" "_law_layers" Q9 J9
theorem rg0 {P:Program}{w:World}{K:Aa3}{mg:Str->Option Value}{base:Heap}{C CWeb CTrail f:Addr}{fd:FuncData}(F:Fun K "law" "law" X0 f fd) (T:Txt K mg C CWeb) (TT:TxtTrail K CTrail) (a:Ats K mg C CWeb CTrail):FnOk P w K mg base CX0 10 f fd Zf0 (spP lawT):=by
 have y7:=y7 (P:=P) (w:=w) (base:=base) T a.toAts0
 have qg0:=qg0 (P:=P) (w:=w) (base:=base) T a.toAts0
 have jg0:=jg0 (P:=P) (w:=w) (base:=base) T a.toAts0
 have kg0:=kg0 (P:=P) (w:=w) (base:=base) T a.toAts0
 have Z7:=Z7 (P:=P) (w:=w) (base:=base) T a.toAts0
 have Q7:=Q7 (P:=P) (w:=w) (base:=base) T a.toAts0
 have J7:=J7 (P:=P) (w:=w) (base:=base) T a.toAts0
 have ka0:=ka0 (P:=P) (w:=w) (base:=base) T a.toAts0
 have wa0:=wa0 (P:=P) (w:=w) (base:=base) T a.toAts0
 have y3:=y3 (P:=P) (w:=w) (base:=base) T a.toAts0
 have Y1:=Y1 (P:=P) (w:=w) (base:=base) T a.toAts0
 have Y3:=Y3 (P:=P) (w:=w) (base:=base) T a.toAts0
 have Z3:=Z3 (P:=P) (w:=w) (base:=base) T a.toAts0
 have K7:=K7 (P:=P) (w:=w) (base:=base) T a.toAts0
 have vk0:∀p,Tight p->SpOk P w K mg base CWeb 1 "number_of" V5 (nw0 C CWeb p):=λp hp=>let ⟨f,fd,F,r⟩:=a.qt0; ⟨f,fd,Yr0 F T,r⟩
 have ju0:∀p,Tight p->SpOk P w K mg base CWeb 4 "worked_out" Y8 (mz0 C CWeb p):=λp hp=>let ⟨f,fd,F,r⟩:=a.jt0; ⟨f,fd,Xr0 F T hp jg0 kg0 (vk0 p hp),r⟩
 have yk0:∀p,Tight p->SpOk P w K mg base CWeb 5 "moves_of" Y5 (nC0 C CWeb p):=λp hp=>let ⟨f,fd,F,r⟩:=a.kt0; ⟨f,fd,zs0 F T hp (ju0 p hp),r⟩
 have ku0:∀p,Tight p->MkOk P w K mg base CWeb 2 "Web" V8 (pz0 C CWeb p):=λp hp=>let ⟨f,fd,F,r⟩:=a.wt0; ⟨f,fd,qs0 F T hp qg0 (vk0 p hp),r⟩
 have xk0:∀p,Tight p->SpOk P w K mg base CTrail 1 "begin" X5 (gj0 CTrail):=λp hp=>let ⟨f,fd,F,r⟩:=a.vt0; ⟨f,fd,xs0 F TT,r⟩
 have vg0:∀p,Tight p->MkOk P w K mg base CTrail 4 "Trail" J3 (spTr C CWeb CTrail p):=λp hp=>let ⟨f,fd,F,r⟩:=a.yt0; ⟨f,fd,hs0 F T TT (ku0 p hp) (xk0 p hp),r⟩
 have hk0:∀p,Tight p->SpOk P w K mg base CTrail 1 "last" j6 (iU0 C CWeb CTrail p):=λp hp=>let ⟨f,fd,F,r⟩:=a.xt0; ⟨f,fd,ks0 F TT,r⟩
 have wu0:∀p,Tight p->SpOk P w K mg base CTrail 1 "is_worth_trying" q9 (rh0 C CWeb CTrail p):=λp hp=>let ⟨f,fd,F,r⟩:=a.Zt0; ⟨f,fd,ws0 F T TT,r⟩
 have Zk0:∀p,Tight p->SpOk P w K mg base CTrail 6 "step" w6 (iX0 C CWeb CTrail p):=λp hp=>let ⟨f,fd,F,r⟩:=a.Qt0; ⟨f,fd,vs0 F T TT hp (mv_of (yk0 p hp)) (hk0 p hp) (wu0 p hp),r⟩
 have Qk0:∀p,Tight p->SpOk P w K mg base CTrail 6 "turn_back" y6 (jU0 C CWeb CTrail p):=λp hp=>let ⟨f,fd,F,r⟩:=a.Jt0; ⟨f,fd,ys0 F T TT (yk0 p hp),r⟩
 have vu0:∀p,Tight p->SpOk P w K mg base CTrail 7 "go_on" v3 (spGo C CWeb CTrail p):=λp hp=>let ⟨f,fd,F,r⟩:=a.wk0; ⟨f,fd,Zs0 F TT hp (Zk0 p hp) (Qk0 p hp),r⟩
 have yu0:∀p,Tight p->SpOk P w K mg base CTrail 7 "go_on" v3 (pp0 C CWeb CTrail p):=λp hp=>let ⟨f,fd,F,r⟩:=a.wk0; ⟨f,fd,Ks0 F TT hp (Zk0 p hp) (Qk0 p hp),r⟩
 have Jk0:∀p,Tight p->DfOk P w K mg base 8 "first_plan" Z6 (go0 C CWeb CTrail p):=λp hp=>let ⟨f,fd,F,r⟩:=a.Kt0; ⟨f,fd,Qs0 F T TT (xk0 p hp) (vu0 p hp),r⟩
 have xu0:∀p,Tight p->DfOk P w K mg base 9 "plan_for" w9 (ni0 C p):=λp hp=>let ⟨f,fd,F,r⟩:=a.Wt0; ⟨f,fd,Js0 F (vg0 p hp) (Jk0 p hp),r⟩
 have Kk0:∀p,Tight p->DfOk P w K mg base 8 "round_place" Q6 (ok0 C CWeb CTrail p):=λp hp=>let ⟨f,fd,F,r⟩:=a.Vt0; ⟨f,fd,Ws0 F T TT hp (hk0 p hp) (yu0 p hp),r⟩
 have Zu0:∀p,Tight p->DfOk P w K mg base 9 "longest" v9 (mk0 C p):=λp hp=>let ⟨f,fd,F,r⟩:=a.Yt0; ⟨f,fd,Vs0 F TT hp (vg0 p hp) (Kk0 p hp) (Jk0 p hp),r⟩
 have Qu0:∀p,Tight p->DfOk P w K mg base 9 "endless" y9 (lm0 C p):=λp hp=>let ⟨f,fd,F,r⟩:=a.Xt0; ⟨f,fd,Ys0 F TT hp (vg0 p hp) (Kk0 p hp),r⟩
 have Ju0:∀p,Tight p->DfOk P w K mg base 3 "_law_states" Z9 (pm0 p):=λp hp=>let ⟨f,fd,F,r⟩:=a.zu0; ⟨f,fd,js0 F T hp y3 ka0 wa0,r⟩
 have Ku0:∀p,Tight p->DfOk P w K mg base 1 "_law_layers" J9 (pk0 p):=λp hp=>let ⟨f,fd,F,r⟩:=a.qu0; ⟨f,fd,Xs0 F T hp,r⟩
 exact zt0 F T Z7 Q7 J7 y7 y3 Y1 Z3 Y3 K7 Ju0 Ku0 xu0 Qu0 Zu0
theorem no_at {K:Aa3}{C:Addr}{x:Str}(h:PySem.W.findIn K (.ref C) x=some none):NoAttr K C x:=h
theorem int_at {K:Aa3}{mg:Str->Option Value}(X:K.In h)(G:h.Ns mainGlobals mg)(a:PySem.W.nsIn K mainGlobals x=some (some v))(e:∃t,v=.int i t):∃t,mg x=some (.int i t):=let ⟨t,e⟩:=e; ⟨t,e▸As5 X G a⟩
theorem fun_at {K:Aa3}{h:Heap}{mg:Str->Option Value}{x qual:Str}{st:Stmt}{ps:List Str}{f:Addr}{od an:Option Addr}{sl:Array (Option Value)}{oc kV dc pm cd ct:Value}(X:K.In h)(G:h.Ns mainGlobals mg)
  (a:PySem.W.nsIn K mainGlobals x=some (some (.ref f))) (l:K.lookup f=some ⟨oc,od,.func (PySem.W.fnOf x qual (bC0 st) (br0 st) (ad0 st) .none kV dc pm an cd ct),sl⟩) (c:PySem.W.codeIn K cd qual=true) (k:PySem.W.keepIn K (.ref f)=true)
  (b:∀{fd:FuncData},Fun K x qual st f fd->Binds K fd ps []):bv0 K mg x qual st ps:=⟨f,_,eK0 (st:=st) l c k,As5 X G a,k,b (eK0 (st:=st) l c k)⟩
theorem met_at {K:Aa3}{x qual:Str}{st:Stmt}{ps:List Str}{f C:Addr}{od an:Option Addr}{sl:Array (Option Value)}{oc kV dc pm cd ct:Value}
  (a:PySem.W.findIn K (.ref C) x=some (some (.ref f))) (i:PySem.W.isFn K (.ref f)=true) (l:K.lookup f=some ⟨oc,od,.func (PySem.W.fnOf x qual (bC0 st) (br0 st) (ad0 st) .none kV dc pm an cd ct),sl⟩) (c:PySem.W.codeIn K cd qual=true) (k:PySem.W.keepIn K (.ref f)=true)
  (b:∀{fd:FuncData},Fun K x qual st f fd->Binds K fd ps []):cR0 K C x qual st ps:=⟨f,_,eK0 (st:=st) l c k,⟨a,i,k⟩,b (eK0 (st:=st) l c k)⟩
theorem mak_at {K:Aa3}{h:Heap}{mg:Str->Option Value}{cn qual:Str}{st:Stmt}{ps:List Str}{f C:Addr}{od an:Option Addr}{sl:Array (Option Value)}{oc kV dc pm cd ct:Value}(X:K.In h)(G:h.Ns mainGlobals mg)
  (n:PySem.W.nsIn K mainGlobals cn=some (some (.ref C))) (mk:PySem.W.makesIn K C=true) (kc:PySem.W.keepIn K (.ref C)=true)
  (a:PySem.W.findIn K (.ref C) "__init__" =some (some (.ref f))) (i:PySem.W.isFn K (.ref f)=true) (l:K.lookup f=some ⟨oc,od,.func (PySem.W.fnOf "__init__" qual (bC0 st) (br0 st) (ad0 st) .none kV dc pm an cd ct),sl⟩) (c:PySem.W.codeIn K cd qual=true) (k:PySem.W.keepIn K (.ref f)=true)
  (b:∀{fd:FuncData},Fun K "__init__" qual st f fd->Binds K fd ps []):of0 K mg C cn qual st ps:=⟨f,_,eK0 (st:=st) l c k,⟨mk,a,i,kc⟩,As5 X G n,b (eK0 (st:=st) l c k)⟩
theorem bn1 {K:Aa3}{x q:Str}{st:Stmt}{ps:List Str}(h:∀(kV doc pm:Value) (an:Option Addr) (cdv ct:Value) (a:Value),bindArgs (PySem.W.fnOf x q (bC0 st) (br0 st) (ad0 st) .none kV doc pm an cdv ct) ⟨[a],[]⟩=pure (ps.zip [a]))(hl:ps.length=1){f:Addr}{fd:FuncData}(F:Fun K x q st f fd):Binds K fd ps []:=F.binds λ_ _ _ _ _ _ us e=>match us,e.trans hl with| [a],_=>h ..
theorem bn2 {K:Aa3}{x q:Str}{st:Stmt}{ps:List Str}(h:∀(kV doc pm:Value) (an:Option Addr) (cdv ct:Value) (a b:Value),bindArgs (PySem.W.fnOf x q (bC0 st) (br0 st) (ad0 st) .none kV doc pm an cdv ct) ⟨[a,b],[]⟩=pure (ps.zip [a,b]))(hl:ps.length=2){f:Addr}{fd:FuncData}(F:Fun K x q st f fd):Binds K fd ps []:=F.binds λ_ _ _ _ _ _ us e=>match us,e.trans hl with| [a,b],_=>h ..
theorem bn3 {K:Aa3}{x q:Str}{st:Stmt}{ps:List Str}(h:∀(kV doc pm:Value) (an:Option Addr) (cdv ct:Value) (a b c:Value),bindArgs (PySem.W.fnOf x q (bC0 st) (br0 st) (ad0 st) .none kV doc pm an cdv ct) ⟨[a,b,c],[]⟩=pure (ps.zip [a,b,c]))(hl:ps.length=3){f:Addr}{fd:FuncData}(F:Fun K x q st f fd):Binds K fd ps []:=F.binds λ_ _ _ _ _ _ us e=>match us,e.trans hl with| [a,b,c],_=>h ..
theorem bn4 {K:Aa3}{x q:Str}{st:Stmt}{ps:List Str}(h:∀(kV doc pm:Value) (an:Option Addr) (cdv ct:Value) (a b c d:Value),bindArgs (PySem.W.fnOf x q (bC0 st) (br0 st) (ad0 st) .none kV doc pm an cdv ct) ⟨[a,b,c,d],[]⟩=pure (ps.zip [a,b,c,d]))(hl:ps.length=4){f:Addr}{fd:FuncData}(F:Fun K x q st f fd):Binds K fd ps []:=F.binds λ_ _ _ _ _ _ us e=>match us,e.trans hl with| [a,b,c,d],_=>h ..
theorem bn5 {K:Aa3}{x q:Str}{st:Stmt}{ps:List Str}(h:∀(kV doc pm:Value) (an:Option Addr) (cdv ct:Value) (a b c d e:Value),bindArgs (PySem.W.fnOf x q (bC0 st) (br0 st) (ad0 st) .none kV doc pm an cdv ct) ⟨[a,b,c,d,e],[]⟩=pure (ps.zip [a,b,c,d,e]))(hl:ps.length=5){f:Addr}{fd:FuncData}(F:Fun K x q st f fd):Binds K fd ps []:=F.binds λ_ _ _ _ _ _ us e=>match us,e.trans hl with| [a,b,c,d,e],_=>h ..
def NoList (K:Aa3):Prop:=(K.all λq=>q.2.cls !=.type "list")=true
theorem iP0:∀{K:List (Addr × Obj)},K.lookup a=some o->(a,o)∈K
 | [],h=>by simp at h
 | (b,u)::K,h=>by
  rw [Ac5] at h
  cases q:a==b with
  |true=>
   rw [q] at h
   cases h
   rw [beq_iff_eq.mp q]
   exact Af8 ..
  |false=>
   rw [q] at h
   exact Ae6 _ (iP0 h)
theorem NoList.at {K:Aa3}(h:NoList K){a:Addr}{o:Obj}(e:K.lookup a=some o):o.cls≠ .type "list" :=λz=>by
 have:=An4.mp h (a,o) (iP0 e)
 rw [z] at this
 simp at this
def nO0 (K:Aa3):Sp:=λvs H Q _=>∃(a:Addr) (ns:List Int),vs=[.ref a]/\Only H/\SqL K H a (ns.map V.int)/\ns.length<=63/\∀H',Q (.bl true) H'
theorem sa0 {P:Program}{w:World}{K:Aa3}{mg:Str->Option Value}{base:Heap}{f:Addr}{fd:FuncData}{k:Nat}(hk:k<=12)(nl:NoList K)(F:FnOk P w K mg base CX0 k f fd Zf0 (spP lawT)):FnOk P w K mg base CX0 12 f fd ["script"] (nO0 K):=by
 refine(F.mono hk).imp λvs H Q E h=> ?_
 obtain⟨l,ns,rfl,hO,hS,hl,q⟩:=h
 rcases hS with(hS|⟨o,hS⟩)|⟨o,its,n,lk,hc,_⟩
 ·rcases hO l with z|⟨o,xs,z⟩
  ·rw [z] at hS; cases hS
  ·rw [z] at hS; cases hS
 ·refine⟨λb=>b=l,[scrT ns],false,.bl true,λb hb=>⟨_,hb▸hS⟩,.cons (.scr rfl hS) .nil,rfl,λF' v H' _ r=> ?_⟩
  have r:Rp F' H' v (.bl true):=r
  cases r
  exact q H'
 ·exact absurd hc (nl.at lk)
theorem walk {l:PySem.W.OpenLaw}{XP:(Str->Option Value)->Heap->Prop}{YP:World->Heap->Prop}{d:DefRec}{K:Params->Aa3}(hn:l.most=some 63)(hdf:d.params.defaults=[])
  (hY:∀(w:World) (h:Heap),YP w h->(K w.params).In h)
  (F:∀(w:World) (mg:Str->Option Value) (fa:Addr) (h:Heap),(K w.params).In h->h.Ns mainGlobals mg->mg d.name=some (.ref fa)->
   ∃fd:FuncData,(∀(s:Shared) (u:Value),BindsTo s fd ⟨[u],[]⟩ [("script",u)])/\∀base:Heap,(K w.params).In base->base.Ns mainGlobals mg->FnOk l.prog w (K w.params) mg base CX0 12 fa fd ["script"] (nO0 (K w.params))):
  PySem.W.WalkO q loose XP YP l.row.toRowW d [] (λf vs=>PySem.call f vs):=
 L2.walk_of (n:=63) (k:=12) (x:= "script") (CX:=λ_=>CX0) (sp:=λw=>nO0 (K w.params)) hn (by decide) hdf ⟨rfl,by decide,by decide⟩ hY F (λ_ _ a ns hl hO hS=>⟨a,ns,rfl,hO,hS,hl,λ_=>rfl⟩) λ_ _ _ _ _ z=>z
theorem law_mk {l:PySem.W.OpenLaw}{K:Aa3}{mg:Str->Option Value}(X:K.In h)(G:h.Ns mainGlobals mg)(hfa:mg "law" =some (.ref fa))
  (aC:PySem.W.nsIn K mainGlobals "Garden" =some (some (.ref C))) (aWeb:PySem.W.nsIn K mainGlobals "Web" =some (some (.ref CWeb))) (aTrail:PySem.W.nsIn K mainGlobals "Trail" =some (some (.ref CTrail)))
  (nl:NoList K) (T:Txt K mg C CWeb) (TT:TxtTrail K CTrail) (a:Ats K mg C CWeb CTrail)
  (a4:PySem.W.nsIn K mainGlobals "law" =some (some (.ref f4))) (l4:K.lookup f4=some ⟨oc4,od4,.func (PySem.W.fnOf "law" "law" (bC0 X0) (br0 X0) (ad0 X0) .none kV4 dc4 pm4 an4 cd4 ct4),sl4⟩) (c4:PySem.W.codeIn K cd4 "law" =true) (k4:PySem.W.keepIn K (.ref f4)=true):
  ∃fd:FuncData,(∀(s:Shared) (v:Value),BindsTo s fd ⟨[v],[]⟩ [("script",v)])/\∀base:Heap,K.In base->base.Ns mainGlobals mg->FnOk l.prog w K mg base CX0 12 fa fd ["script"] (nO0 K):=by
 have e:=hfa.symm.trans (As5 X G a4)
 cases e
 exact⟨PySem.W.fnOf "law" "law" (bC0 X0) (br0 X0) (ad0 X0) .none kV4 dc4 pm4 an4 cd4 ct4,λs v=> .of_eq rfl,λbase _ _=>sa0 (by decide:10<=12) nl (rg0 (eK0 (st:=X0) l4 c4 k4) T TT a)⟩
end Bed1
open PySem PySem.W PyProof.Rows
set_option maxHeartbeats 0 in
theorem PySem.Challenge.cw_bedround_k07_whole_longest_or_for_ever_holds : PySem.Challenge.rw_bedround_k07_whole_longest_or_for_ever.Holds := by
 w_on
 refine PySem.W.holds_law Bed1.HS λsaid=> ?_
 refine PySem.W.holds_open (r:=PySem.Challenge.rw_bedround_k07_whole_longest_or_for_ever.row) (XP:=XL Bed1.qv []) (YP:=Hook.says (kHook Bed1.KK Bed1.KA Bed1.KE)) Bed1.HL (Hook.of (kHook Bed1.KK Bed1.KA Bed1.KE)) (Hook.keeps (kHook Bed1.KK Bed1.KA Bed1.KE)) (λs e=>xl_of s (Bool.and_eq_true_iff.mp e).1) XL.keeps (by rfl) (by rfl) (by rfl) (λs e=>recFacts_of (Bool.and_eq_true_iff.mp e).2) (by rfl) (by first|assumption|decide +kernel) (by decide +kernel) ⟨rfl,rfl,rfl,rfl,rfl,by decide +kernel⟩ ?hw ?hc
 (case hw=>w_witness2)
 k_fill
 refine Bed1.walk (l:=PySem.Challenge.rw_bedround_k07_whole_longest_or_for_ever) rfl rfl (λw h Y=>PySem.W.kIn_of Y) ?F
 case F=>
  intro w mg fa h KX G hmg
  refine' Bed1.law_mk KX G hmg ?aC ?aWeb ?aTrail ?nl ?T ?TT ?A ?a4 ?l4 ?c4 ?k4
  (case aC=>k_is)
  (case aWeb=>k_is)
  (case aTrail=>k_is)
  (case nl=>exact(show Bed1.NoList _ from rfl))
  case T=>
   refine' ⟨⟨?_,?_,?_,?_⟩,Bed1.no_at ?_,Bed1.no_at ?_,Bed1.no_at ?_,Bed1.no_at ?_,Bed1.no_at ?_,Bed1.no_at ?_,Bed1.no_at ?_,Bed1.no_at ?_,⟨?_,?_,?_,?_⟩,Bed1.no_at ?_,Bed1.no_at ?_,Bed1.no_at ?_,Bed1.no_at ?_,Bed1.no_at ?_,PySem.W.mg_none_of KX G ?_,PySem.W.mg_none_of KX G ?_,PySem.W.mg_none_of KX G ?_,PySem.W.mg_none_of KX G ?_,PySem.W.mg_none_of KX G ?_,PySem.W.mg_none_of KX G ?_,PySem.W.mg_none_of KX G ?_,PySem.W.mg_none_of KX G ?_,PySem.W.mg_none_of KX G ?_,PySem.W.mg_none_of KX G ?_,PySem.W.mg_none_of KX G ?_,PySem.W.mg_none_of KX G ?_,PySem.W.mg_none_of KX G ?_,Bed1.int_at KX G ?_ ?_,Bed1.int_at KX G ?_ ?_,Bed1.int_at KX G ?_ ?_,Bed1.int_at KX G ?_ ?_,Bed1.int_at KX G ?_ ?_,Bed1.int_at KX G ?_ ?_,Bed1.int_at KX G ?_ ?_⟩
   all_goals try k_is
   all_goals exact⟨_,rfl⟩
  case TT=>
   refine' ⟨⟨?_,?_,?_,?_⟩,Bed1.no_at ?_,Bed1.no_at ?_,Bed1.no_at ?_,Bed1.no_at ?_⟩<;>k_is
  case A=>
   refine' ⟨⟨Bed1.fun_at KX G ?_ ?_ ?_ ?_ (Bed1.bn3 (λ_ _ _ _ _ _ _ _ _=>rfl) rfl),Bed1.fun_at KX G ?_ ?_ ?_ ?_ (Bed1.bn4 (λ_ _ _ _ _ _ _ _ _ _=>rfl) rfl),Bed1.fun_at KX G ?_ ?_ ?_ ?_ (Bed1.bn2 (λ_ _ _ _ _ _ _ _=>rfl) rfl),Bed1.fun_at KX G ?_ ?_ ?_ ?_ (Bed1.bn1 (λ_ _ _ _ _ _ _=>rfl) rfl),Bed1.fun_at KX G ?_ ?_ ?_ ?_ (Bed1.bn2 (λ_ _ _ _ _ _ _ _=>rfl) rfl),Bed1.fun_at KX G ?_ ?_ ?_ ?_ (Bed1.bn1 (λ_ _ _ _ _ _ _=>rfl) rfl),Bed1.fun_at KX G ?_ ?_ ?_ ?_ (Bed1.bn1 (λ_ _ _ _ _ _ _=>rfl) rfl),Bed1.fun_at KX G ?_ ?_ ?_ ?_ (Bed1.bn2 (λ_ _ _ _ _ _ _ _=>rfl) rfl),Bed1.fun_at KX G ?_ ?_ ?_ ?_ (Bed1.bn2 (λ_ _ _ _ _ _ _ _=>rfl) rfl),Bed1.mak_at KX G ?_ ?_ ?_ ?_ ?_ ?_ ?_ ?_ (Bed1.bn5 (λ_ _ _ _ _ _ _ _ _ _ _=>rfl) rfl),Bed1.met_at ?_ ?_ ?_ ?_ ?_ (Bed1.bn1 (λ_ _ _ _ _ _ _=>rfl) rfl),Bed1.met_at ?_ ?_ ?_ ?_ ?_ (Bed1.bn4 (λ_ _ _ _ _ _ _ _ _ _=>rfl) rfl),Bed1.met_at ?_ ?_ ?_ ?_ ?_ (Bed1.bn3 (λ_ _ _ _ _ _ _ _ _=>rfl) rfl),Bed1.met_at ?_ ?_ ?_ ?_ ?_ (Bed1.bn2 (λ_ _ _ _ _ _ _ _=>rfl) rfl),Bed1.fun_at KX G ?_ ?_ ?_ ?_ (Bed1.bn2 (λ_ _ _ _ _ _ _ _=>rfl) rfl),Bed1.met_at ?_ ?_ ?_ ?_ ?_ (Bed1.bn2 (λ_ _ _ _ _ _ _ _=>rfl) rfl),Bed1.met_at ?_ ?_ ?_ ?_ ?_ (Bed1.bn4 (λ_ _ _ _ _ _ _ _ _ _=>rfl) rfl),Bed1.met_at ?_ ?_ ?_ ?_ ?_ (Bed1.bn3 (λ_ _ _ _ _ _ _ _ _=>rfl) rfl),Bed1.fun_at KX G ?_ ?_ ?_ ?_ (Bed1.bn2 (λ_ _ _ _ _ _ _ _=>rfl) rfl),Bed1.fun_at KX G ?_ ?_ ?_ ?_ (Bed1.bn2 (λ_ _ _ _ _ _ _ _=>rfl) rfl),Bed1.fun_at KX G ?_ ?_ ?_ ?_ (Bed1.bn2 (λ_ _ _ _ _ _ _ _=>rfl) rfl),Bed1.fun_at KX G ?_ ?_ ?_ ?_ (Bed1.bn4 (λ_ _ _ _ _ _ _ _ _ _=>rfl) rfl),Bed1.fun_at KX G ?_ ?_ ?_ ?_ (Bed1.bn3 (λ_ _ _ _ _ _ _ _ _=>rfl) rfl),Bed1.fun_at KX G ?_ ?_ ?_ ?_ (Bed1.bn2 (λ_ _ _ _ _ _ _ _=>rfl) rfl),Bed1.fun_at KX G ?_ ?_ ?_ ?_ (Bed1.bn1 (λ_ _ _ _ _ _ _=>rfl) rfl),Bed1.fun_at KX G ?_ ?_ ?_ ?_ (Bed1.bn3 (λ_ _ _ _ _ _ _ _ _=>rfl) rfl),Bed1.fun_at KX G ?_ ?_ ?_ ?_ (Bed1.bn2 (λ_ _ _ _ _ _ _ _=>rfl) rfl),Bed1.fun_at KX G ?_ ?_ ?_ ?_ (Bed1.bn2 (λ_ _ _ _ _ _ _ _=>rfl) rfl),Bed1.fun_at KX G ?_ ?_ ?_ ?_ (Bed1.bn2 (λ_ _ _ _ _ _ _ _=>rfl) rfl),Bed1.fun_at KX G ?_ ?_ ?_ ?_ (Bed1.bn1 (λ_ _ _ _ _ _ _=>rfl) rfl),Bed1.fun_at KX G ?_ ?_ ?_ ?_ (Bed1.bn3 (λ_ _ _ _ _ _ _ _ _=>rfl) rfl),Bed1.fun_at KX G ?_ ?_ ?_ ?_ (Bed1.bn1 (λ_ _ _ _ _ _ _=>rfl) rfl),Bed1.fun_at KX G ?_ ?_ ?_ ?_ (Bed1.bn3 (λ_ _ _ _ _ _ _ _ _=>rfl) rfl),Bed1.fun_at KX G ?_ ?_ ?_ ?_ (Bed1.bn1 (λ_ _ _ _ _ _ _=>rfl) rfl),Bed1.fun_at KX G ?_ ?_ ?_ ?_ (Bed1.bn1 (λ_ _ _ _ _ _ _=>rfl) rfl),Bed1.fun_at KX G ?_ ?_ ?_ ?_ (Bed1.bn2 (λ_ _ _ _ _ _ _ _=>rfl) rfl)⟩,Bed1.met_at ?_ ?_ ?_ ?_ ?_ (Bed1.bn3 (λ_ _ _ _ _ _ _ _ _=>rfl) rfl),Bed1.met_at ?_ ?_ ?_ ?_ ?_ (Bed1.bn2 (λ_ _ _ _ _ _ _ _=>rfl) rfl),Bed1.met_at ?_ ?_ ?_ ?_ ?_ (Bed1.bn2 (λ_ _ _ _ _ _ _ _=>rfl) rfl),Bed1.mak_at KX G ?_ ?_ ?_ ?_ ?_ ?_ ?_ ?_ (Bed1.bn2 (λ_ _ _ _ _ _ _ _=>rfl) rfl),Bed1.met_at ?_ ?_ ?_ ?_ ?_ (Bed1.bn1 (λ_ _ _ _ _ _ _=>rfl) rfl),Bed1.mak_at KX G ?_ ?_ ?_ ?_ ?_ ?_ ?_ ?_ (Bed1.bn2 (λ_ _ _ _ _ _ _ _=>rfl) rfl),Bed1.met_at ?_ ?_ ?_ ?_ ?_ (Bed1.bn1 (λ_ _ _ _ _ _ _=>rfl) rfl),Bed1.met_at ?_ ?_ ?_ ?_ ?_ (Bed1.bn3 (λ_ _ _ _ _ _ _ _ _=>rfl) rfl),Bed1.met_at ?_ ?_ ?_ ?_ ?_ (Bed1.bn2 (λ_ _ _ _ _ _ _ _=>rfl) rfl),Bed1.met_at ?_ ?_ ?_ ?_ ?_ (Bed1.bn1 (λ_ _ _ _ _ _ _=>rfl) rfl),Bed1.met_at ?_ ?_ ?_ ?_ ?_ (Bed1.bn2 (λ_ _ _ _ _ _ _ _=>rfl) rfl),Bed1.fun_at KX G ?_ ?_ ?_ ?_ (Bed1.bn2 (λ_ _ _ _ _ _ _ _=>rfl) rfl),Bed1.fun_at KX G ?_ ?_ ?_ ?_ (Bed1.bn2 (λ_ _ _ _ _ _ _ _=>rfl) rfl),Bed1.fun_at KX G ?_ ?_ ?_ ?_ (Bed1.bn1 (λ_ _ _ _ _ _ _=>rfl) rfl),Bed1.fun_at KX G ?_ ?_ ?_ ?_ (Bed1.bn1 (λ_ _ _ _ _ _ _=>rfl) rfl),Bed1.fun_at KX G ?_ ?_ ?_ ?_ (Bed1.bn1 (λ_ _ _ _ _ _ _=>rfl) rfl),Bed1.fun_at KX G ?_ ?_ ?_ ?_ (Bed1.bn1 (λ_ _ _ _ _ _ _=>rfl) rfl),Bed1.fun_at KX G ?_ ?_ ?_ ?_ (Bed1.bn2 (λ_ _ _ _ _ _ _ _=>rfl) rfl)⟩
   all_goals try k_is
  (case a4=>k_is); (case l4=>k_is); (case c4=>k_is); (case k4=>k_is)
