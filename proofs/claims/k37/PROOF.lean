import PyProof.Rows.All
import Wide.All
import OpenK.AllK
import Wide.FinOn
import PyProof.EqAt
import PyProof.EqKinds
import PyProof.TupleCall
import PyProof.NeKinds
import PyProof.FactsAll.tuple_2
import PyProof.FactsAll.tuple_3
import PyProof.ListRange
import KE.KSortTup
import PyProof.EnumMake
import PyProof.AutoSeq1
import PyProof.Rows.SeqMore
import KE.KIsAll
import PyProof.ExcArgsOwn
import PyProof.ExcBaseAll.ValueError
import PyProof.ExcAttrAll.ValueError
import OpenK.KOwn
import PyProof.RulesAs
import PyProof.AutoRange
import PyProof.SeqRoads2
import PyProof.ZipIter
import PyProof.StrCalls2
import KE.KDictSum
import PyProof.SumAny
import KE.KRevIter
import PyProof.Rows.FStr
import PyProof.Rows.FStrParts
import KE.KRevSl
import PyProof.Rows.SetFrom
import PyProof.Rows.SortRev
import PyProof.FactsAll.int_0
import PyProof.FactsAll.int_6
import PyProof.AutoIntG2
import KE.BitLaws
import Lean
import PySem.Challenge.RW_rookborders_k37_tables_by_ranks
set_option bootstrap.genMatcherCode false
set_option compiler.extract_closed false
set_option Elab.async false
set_option linter.all false
set_option maxRecDepth 100000
set_option maxHeartbeats 1000000
set_option linter.defProp false
open PySem renaming wpAny_bind→Ss,wpAny_pure→Sv,Value→Sw,Shared→Sx,starEach→SF,wpAny→SL,sizeLine→SU,Program→S9,cLine→Tq,Around→Tr,World→Tu,wpAny_mono→Tv,wpAny_holding→TM,wpAny_setState_of→TQ,wpAny_call_entry→TU,foldedSetIterable→TY,mem_of_lookup→T0,bootBuiltins→T3,SetTable→T4,wpAny_newObj_type→T6,sizeLine_eq→T8,tupleKind_room_in1→Uc,wpAny_callSpecial?_slot→Uf,backTo→Ul,swapsWith→Uw,mainGlobals→UC,wpAny_truthy_bool→UD,attributeBase→UG,Spec→UO,sysModules→UP,assignEach→UQ,behindInMarks→UV,compareOp→U0,cellsFrom→U1,unsupported→U2,codeAny_builtin→U3,wpAny_standAt→Vb,Builtin→Vc,wpAny_typeNameOfWhole_keyiter→Ve,Scope→Vj,NameKind→Vk,codeAny_mono→Vo,binaryOp→Vt,FuncData→Vu,codeAny→Vy,wpAny_passesOwn→VA,letOwnedTupleGo→VB,wpAny_loadPart'→VC,wpAny_storeSet_of→VH,Keyword→VI,wpAny_field→VN,wpAny_comprehension_free→VP,wpAny_typeNameOf_keyiter→VS,putSet_of→VX,assign→VY,wpAny_setField→V0,wpAny_isInstance→V1,keywordEach→V7,pyNext→Wa,rawInt→Wb,wpAny_setField_rec→Wg,wpAny_ite_split→Wk,wpAny_fieldsOf→WD,wpAny_attempt→WW,holding→WZ,wpAny_pyIter_tuple→W4,wpAny_Call_Name_kw→W5,tupleKind→W6,wpAny_pyIter_enum→Xj,wpAny_dictEntries→Xm,wpAny_setEpoch_of→Xo,atKey_none_of_get→Xp,wpAny_isOneOf_keyiter→Xv,wpAny_forIn_list→Xz,wpAny_rule→XA,wpAny_askSetting→XD,swapsWithSole→XI,swappedStores→XJ,relabel→XM,backToKw→XO,wpAny_specialOf→XS,wpAny_execs_nil→XU,codeAny_of_tree→XX,IsEnum→XZ,wpAny_seqItems→Yn,call_meets→Yr,newFunctionEnv→Yt,wpAny_letOwnedTupleGo_enum→Yu,ofAClassStatement→YE,wpAny_assign_Name→YF,standAt→YG,wpAny_pyIter_list→YH,wpAny_of_eq→YJ,wpAny_pyIter_slot→YM,pyIter→YS,plainId_quiet→YY,setDiscardHashed→Y4,setAddHashed→Zl,Result→Zm,wpAny_Call_method_late→Zq,callerA→Zr,codeAny_compStart_list→Zs,sub_set_self→Zy,theTreesLotGoes→ZC,wpAny_dictEpoch→ZD,wpAny_isSame_ref_self→ZH,wpAny_isTrue_Compare1→ZI,exec_Assign_Name_used→ZK,wpAny_notOrdered_dict→ZQ,weight_type_call_type→ZS,again→ZW,subscripted→ZY,wpAny_runValue→Z0,firstArgMember→Z1,isSubtype_stop→Z2,atKey→Z7,wpAny_pyIter_keyiter→Z8,entryFor_alias→Z9,codeAny_call_builtin→jaa,dictSetDefault→jab,getItem→jae,wpAny_setEntries_of→jai,assignInOrder→jan,wpAny_newList→jaq,wpAny_handled→jar,builtinsNs→jay,wpAny_getItem_heap→jaB,wpAny_typeOf→jaR,searchCouldBeSeen→jaS,setState→jaU,BindsTo→jaW,seqIndex_neg→jaZ,slot_list_getitem→jba,compEnvC→jbc,codeAny_loop→jbd,compTurn→jbe,newList→jbf,call_meetsIn→jbo,wpAny_Call_method→jbp,wpAny_eqBool_int→jbw,wpAny_execs_cons→jby,PassesOwn→jbz,noFill_tuple_add→jbC,DictEntry→jbD,noteFrame→jbE,wpAny_pyIter_zip→jbJ,wpAny_Dict_empty→jbK,checkBuiltinCall→jbM,hashByValue→jbU,seqIndex_of→jbW,sliceBounds→jbX,wpAny_alloc→jbY,wpAny_noted→jca,wpAny_throw→jcd,storedH_new→jcg,valueAt→jcy,storeSet→jcF,GenState→jcI,wpAny_Name→jcJ,bindName→jcK,wpAny_load→jcM,wpAny_call→jcP,bindL→jcQ,bindC→jcR,typeOf→jcU,call→jcW,boot_len→jcX,compPost→jcY,field→jdi,newExc→jdj,newTuple→jdk,setField→jdl,entryFor→jdn,slotArgs→jdo,setRoomFor→jds
open List renaming range→Su,map_cons→SD,mem_cons_of_mem→SI,getElem?_eq_getElem→SJ,getElem?_eq_some_iff→SK,mem_cons_self→SM,replicate→SN,length_map→SO,getElem?_set_ne→SS,mem_range→SV,length_cons→SX,mem_map→SY,map_map→S4,length_append→S5,mem_cons→S6,getElem?_set_self→Ta,map_append→Tb,mem_append→Tf,mem_filter→Tg,mem_singleton→Th,mem_of_getElem?→Tj,mem_append_right→Tt,perm_ext_iff_of_nodup→TC,getElem?_append_left→TF,mem_iff_getElem?→TK,nodup_append→TX,all_eq_true→TZ,mem_map_of_mem→T1,nodup_cons→T5,flatMap_cons→T7,map_congr_left→T9,length→Ua,mem_append_left→Ub,getElem?_append_right→Ue,pairwise_map→Ug,getElem?_map→Uh,pairwise_iff_getElem→Ui,pairwise_lt_range→Uk,nodup_range→Uo,filter_eq_self→Us,getElem?_replicate→Uu,append_nil→Uv,map_flatMap→Uz,length_range→UB,length_singleton→UE,toArray→UJ,find?_cons→UK,pairwise_cons→UN,getElem?_zip_eq_some→U4,length_filter_le→U5,ext_getElem→U8,length_eraseIdx→Vd,getElem?_cons_zero→Vh,foldl_cons→Vi,getElem_of_mem→Vn,range_succ_eq_map→Vq,mem_flatMap→Vr,eraseIdx_sublist→Vx,length_nil→VD,any_map→VL,filter_cons→VV,getD→VW,getElem?_cons_succ→V2,nodup_nil→V4,isEmpty_nil→V5,filter_cons_of_neg→V6,nil_append→Wj,getElem?_eq_none→Wp,append_assoc→Wt,size_toArray→Ww,ext_getElem?→Wz,getD_eq_getElem?_getD→WF,not_mem_nil→WM,mem_of_find?_eq_some→WO,drop_eq_getElem_cons→WP,getLast?_eq_getElem?→WQ,range'→Xa,filter_cons_of_pos→Xc,findIdx?_eq_some_iff_getElem→Xd,take_of_length_le→Xf,drop_eq_nil_of_le→Xg,any_eq_false→Xk,filter_congr→Xq,eraseIdx_eq_take_drop_succ→Xr,pairwise_flatMap→Xt,mem_eraseIdx_iff_getElem?→Xx,filter_map→X5,countP_eq_length_filter→X6,filterMap_cons→X7,filter_sublist→X9,find?_eq_none→Yl,mem_filterMap→Ym,lookup_append→Ys,filter_filter→Yw,nodup_iff_pairwise_ne→Yx,filter_append→Yy,count_eq_zero→Yz,getElem?_take_of_lt→YT,all_cons→YV,any_cons→YW,mem_of_mem_eraseIdx→Y0,perm_middle→Y3,length_eraseIdx_le→Y5,length_take→Y6,getElem_mem→Zb,any_eq_true→Zc,flatMap_nil→Zg,getElem?_eraseIdx→Zj,length_pos_of_mem→ZA,of_mem_zip→ZB,take_append_drop→ZG,length_replicate→ZJ,pairwise_append→ZU,mem_of_mem_drop→ZV,range_eq_range'→ZZ,getElem_toArray→Z6,zip_cons_cons→jau,count_pos_iff→jaH,ne_nil_of_mem→jaI,take_sublist→jaO,map_nil→jaY,map→jbk,getElem?_set→jbm,getElem?_inj→jbr,getElem_take→jbs,countP_congr→jbv,getElem_inj→jbx,getElem_map→jbF,range'_succ→jbG,flatMap_map→jbQ,map_id→jcj,countP_map→jcu,Nodup→jcA,mapM_cons→jdr,take_succ→jdt,map_take→jdL,sum_cons→jem,all_map→jfc,map_set→jfs,flatMap→jfu
open PySem.Heap renaming get?_push_of_some→Sy,get?_push_size→SC,lt_size→SH,get?_update_self→Ts,SameBut→Tw,get?_update_other→Uy,size_push→UY,ExtBut→YK,get?_push_ne→YL
open Option renaming bind_eq_some_iff→Sz,bind_some→SG,map_eq_some_iff→S0,map_eq_none_iff→UZ,isSome_map→WA,map_some→X0,getD_some→Zh,isSome_some→jaz,bind→jbZ,map_map→jdv,none→jgb
open PySem.W renaming Frag→SA,hashAt→Xw,kia_one→XB,kas_rev→Ye,keepIn→Yq,kitOne→Y8,fnOf→Zn,kas_ask→jaf,codeIn→jaX,kas_sort→jbh,cellsFrom_some→jbA,methodObj→jbV,OpenLaw→jeB
open Nat renaming le_refl→SB,le_of_ble_eq_true→SE,lt_of_lt_of_le→SQ,lt_of_le_of_lt→SZ,ne_of_lt→S7,le_trans→Tz,lt_irrefl→TH,pow_le_pow_right→TW,zero_le→Ur,ne_of_gt→Ux,mod_lt→UM,le_of_lt→Va,add_le_add_left→Vl,pow→Vz,lt_trichotomy→VF,lt_of_succ_lt→VJ,mul_le_mul→V3,not_lt→We,lt_of_succ_lt_succ→Wf,testBit_lt_two_pow→Wh,lt_succ_iff→Wi,le_add_left→Wm,eq_of_beq_eq_true→Ws,le_of_succ_le→Wx,eq_of_testBit_eq→WG,lt_succ_self→WH,le_max_right→WI,mod_eq_of_lt→WJ,beq→WN,lt_pow_two_of_testBit→WR,not_lt_zero→WY,le_max_left→W0,testBit_xor→W2,le_succ→W9,zero_add→Xe,le_add_right→Xy,pow_succ'→XG,add→XN,pow_succ→Yb,sub→Yj,lt_succ_of_lt→YN,mul_assoc→YR,succ_add_eq_add_succ→Y2,succ→Y9,lt_trans→Zi,testBit_and→ZE,log2_eq_iff→ZF,add_mod→ZT,add_mul→Z4,one_mul→Z5,ble→jag,mul→jah,lt_of_le_of_ne→jaF,xor_lt_two_pow→jaG,mul_comm→jaL,succ_add→jaM,le_succ_of_le→jbi,add_zero→jbn,log2_lt→jcb,strongRecOn→jct,add_assoc→jel,sub_self→jeQ,add_comm→jfk,lt_or_ge→jfq,land→jgx
open Bool renaming false_eq_true→SW,and_eq_true→TR,not_eq_true'→Ut,and_eq_true_iff→Vf,eq_iff_iff→VE,true_and→VR,false_ne_true→V9,not_true→Wn,or_eq_true→X2,and_eq_false_iff→ZP,or_eq_true_iff→jaj,and_self→jam,eq_false_iff→jbu,false_and→jcC,and_false→jcD,and_true→jek
open Array renaming length_toList→S8,getElem?_toList→Tk,getElem?_eq_getElem→Tl,getElem?_eq_some_iff→Ud,mem_toList_iff→VG,getElem?_eq_none→Xn,getD_eq_getD_getElem?→Yd,getElem?_replicate→YO,toList_filterMap→Zk,getD→jav,forIn_toList→jaw,getElem_mem→jbg,replicate→jck,size_map→jcE
open PySem.Value renaming ref→Tc,none→Tn,int→W7,type→jax,isInt_shape→jaT,isStrOf→jdM,str→jeu,isInt→jfO,bool→jhq
open PySem.SetTable renaming below→Td,insertAt→TB,bits→TD,eraseAt→TJ,sizeAbove→TN,runEnd→TV,toList_insertAt→Uq,turns→Vs,leap→WT,has→Yc,laid→YQ,slot→jak,fill→jal,layClean→jaP,grown→jcH,drop→jdH
open Or renaming inr→Te,inl→TL
open PySem.PassesOwn renaming never→Ti
open Ne renaming symm→To
open PySem.Heap.SameBut renaming update→Tx,refl→WB
open Classical renaming byContradiction→Uj,skolem→jbR
open PySem.F renaming called_set→Um,slot_list_append→UH,type_list_append→UI,slot_dict_keyiterator_next→UL,slot_tuple_iterator_next→Vw,plainAttrs_list→VZ,slot_enumerate_next→Wr,plain_list_iadd→Xh,slot_dict_get→Xu,args_dict_keyiterator_next_1→XE,entry_dict_keyiterator_next→XR,args_tuple_iterator_next_1→XY,slot_dict_setdefault→X4,slot_set_contains→X8,entry_tuple_iterator_next→Yg,slot_int_bit_length→Yi,slot_dict_getitem→YC,args_tuple_add_2→YU,slot_tuple_index→YX,entry_tuple_add→Y7,args_enumerate_next_1→Za,args_dict_get_3→Zd,plainAttrs_dict→Ze,slot_tuple_add→Zo,entry_enumerate_next→Zv,typeCall_enumerate_1→Zw,entry_dict_get→Zx,plainAttrs_set→Zz,entry_proto_collect→ZL,plain_proto_collect→ZM,newCall_enumerate_1→ZN,entry_enumerate_new→ZO,args_object_init_2→Z3,called_enumerate→jaA,entry_list_iadd→jbj,entry_type_call→jbq,slot_dict_iter→jbL,entry_set_init→jbN,slot_set_iter→jco,plain_set_new→jcp
open PySem.Builtin.SmallTypes renaming nextOf→UA,ownedTupleHandOut→WS,ownedTupleIsFree→WX
open PySem.Paired renaming length→UF,snoc→jgo
open PySem.Obj renaming data_mapFields→UR,isFreed_of_fields→U6,mapSeq→Vv,mapFields→VT,putSet→W3,cls_mapFields→Xi,data_mapDictKeys→jac
open List.Pairwise renaming filter→US,imp_of_mem→U9,sublist→Wo,nil→Wu
open PySem.Around renaming under_plainId→UT,under_plain→jaD
open PyProof.Rows renaming callWith_type1→UU,seqObj→Wq,sortedHeap→XC,AllBare→XH,envOfC→XW,assignInOrder_cons→Yp,subscriptTail_builtinR→Zp,IntsAre→jad,subscriptTail→jao,listUpdate_at→jap,assignInOrder_nil→jaV,callWith_builtin1→jbB,seqEpoch_at→jcc,callWith_type0→jcx,Subscript_→jcT
open PySem.NameKind renaming free→UW,cell→WV
open PySem.SetTable.layClean renaming free→UX
open List.Nodup renaming length_le_of_subset→U7,sublist→V8
open Int renaming toNat_natCast→Vg,emod_eq_of_lt→VO,natCast_emod→WL,mul_le_mul_of_nonneg_left→XQ,natCast_add→X1,zero_add→Yk,emod_lt_of_pos→jat,add_emod_right→jaE,ediv_nonneg→jcn,add_assoc→jep,add_comm→jfj
open PySem.Builtin.Int renaming intBits→Vm
open PySem.Calls renaming callWith_builtin→Vp,spliced_cons→Wc,evalArgs_plain→WC,Name_function_global→Yo,call_function_entry→YB,spliced_nil→YI
open PySem.Str renaming ofString→VM
open PySem.SeqAt renaming EqAt→VQ,RcAt→Zt,RcNeAt→Zu
open PySem.Builtin.Frozenset renaming addrOf→VU,oneOther→WE,withSetAsKey→XF,updateFrom→jcq,newClass→jdp,sizeOf→jee,slot0→jeI
open Sum renaming inl→Wv,inr→jcw
open PySem.Builtin.List renaming listTooLong→WU,listExtendWith→Yf,listLengthHint→Yh
open PySem.W.KasT renaming kasWp_bind→W1
open PySem.Builtin.Range renaming rangeSize→W8
open PyProof.Rows.F renaming plain_set_update_loop→Xb,entry_set_update_loop→Zf
open Nat.succ renaming inj→Xl
open PySem.SetTable.sizeAbove renaming go→Xs
open Option.some renaming inj→XT
open PySem.Builtin.Dict_items renaming ownsTuple→X3
open Function renaming comp_apply→Ya,comp→jec
open PySem.Challenge renaming pw_rookborders_k37_tables_by_ranks→Yv,rw_rookborders_k37_tables_by_ranks→YA
open PySem.SetTable.probe renaming go→YD
open List.Perm renaming eq_of_pairwise→YZ,swap→jdm
open List.cons renaming inj→Y1
open PySem.Builtin.Dict renaming showsAll→ZR,keyAndDefault→jdu,dictSlotNone→jdB
open PySem.Builtin renaming bitXor→ZX
open PySem.Shared renaming TypeIs→jas
open PySem.Code renaming quiet_builtin→jaC
open PySem.MeetsSeq2 renaming wpAny_forIn_array→jaK
open PySem.SetTable.below renaming go→jaN
open PySem.IsTupleKey renaming typeIs→jaQ
open PySem.W.KatTups renaming cons→jbl
open PySem.W.Looks renaming now→jbH
open And renaming intro→jbI
open PySem.SeqAt.RcNeAt renaming lists_lengths→jcZ,tuples→jgP,lists→jhJ
open PySem.Fin renaming done→jdf
open PySem.Builtin.Tuple renaming tupleHashOf→jdx
open PyProof.Rows.IsTup renaming new→jex
open PySem.pickOrder renaming go→jfo
open PySem.MeetsSeq.EqGives renaming int→jgk
open PySem.SetTable.Slot renaming dummy→jgC
open PySem.Heap.IsSliceOf renaming new→jhA
open PySem.Walks renaming list→jhL
open List.Sublist renaming refl→jiN
open Option renaming some→p5,none→Sr
open Bool renaming true→S1,false→Pa
open Decidable renaming decide→Oo
local macro_rules|`(tactic|nofun)=>`(tactic|simp_all)
local macro_rules|`(command|def $i $s $v:declVal)=>`(command|noncomputable def $i $s $v:declVal)
local macro_rules|`(⋯)=>`(by lia)
local macro_rules|`(())=>`(by decide)
namespace Lake
noncomputable section
open PySem
theorem _root_.vu{p:Prop}[Decidable p]:(Oo p=S1)=p:=decide_eq_true_eq
theorem _root_.v3{p:Prop}[Decidable p]:p->decide p=true:=decide_eq_true
theorem _root_.v7{p:Prop}[Decidable p]:¬p->decide p=false:=decide_eq_false
abbrev wd:List PySem.Str:=["stand","a","b"]
abbrev wh:List PySem.Str:=["square","stand"]
abbrev w4:List PySem.Str:=["_law_bag_here","_law_n","_law_plain","_law_by","_law_rings","_law_crosses","_law_c","_law_d","_law_row"]
abbrev zk:List PySem.Str:=["_law_script","_law_bag_here","_law_kind","_law_square_here","_law_due_here","_law_found","_law_row"]
abbrev zm:List PySem.Str:=["square","stand","a","b"]
abbrev zq:List PySem.Str:=["_law_bag_here","_law_n"]
abbrev zS:List PySem.Str:=["_law_square_here","_law_stand","_law_a","_law_b"]
abbrev zW:List PySem.Str:=["_law_n","_law_found","_law_bar","_law_longer","_law_begun","_law_height"]
abbrev A0:List PySem.Str:=["_law_square_here","_law_stand","_law_places"]
abbrev B1:List PySem.Str:=["square","stand","a","b","rings","crosses","marked","column","row"]
abbrev B2:List PySem.Str:=["square","cycles","leads","found","stand","home","grade","lean"]
abbrev B3:List PySem.Str:=["_law_bag_here","_law_by","_law_k","_law_rings","_law_column"]
abbrev E1:List PySem.Str:=["_law_bag_here","_law_by","_law_k","_law_rings","_law_row"]
abbrev Fz:List PySem.Str:=["_law_square_here","_law_stands"]
abbrev IH:List PySem.Str:=["_law_script","_law_k"]
abbrev La:List PySem.Str:=["size","start","end"]
abbrev Lb:List PySem.Str:=["_law_bag_here","_law_many"]
theorem rG {n:Nat}{l:List Nat}(a:l.Nodup)(h: ∀z∈l,z<n):l.length<=n:=by
 have p:l.Perm ((Su n).filter λz=>decide (z∈l)):=(TC a (US _ Uo)).mpr λz=>by
  nofun
 rw[p.length_eq];exact Tz (U5 _ _) (by simp)
def jL:Nat->Nat
 |0=>0
 |n+1=>5*jL n+1
theorem uB(m:Nat): ∀n,jL (m+n)=5^n*jL m+jL n
 |0=>by simp[jL]
 |n+1=>by
  show 5*jL (m+n)+1=_;rw[uB m n,Yb];show _=5^n*5*jL m+(5*jL n+1);rw[Nat.mul_add,Nat.mul_right_comm,jaL 5 (5^n*jL m)];rfl
theorem AY: ∀n,jL n % 2=n % 2
 |0=>rfl
 |n+1=>by have:=AY n;grind[jL]
theorem oX: ∀n,5^n=4*jL n+1
 |0=>rfl
 |n+1=>by rw[Yb,oX n];show _=4*(5*jL n+1)+1;lia
theorem RW(k a:Nat)(h:a % 2=1):Nat.Coprime (2^k) a:=by
 refine Nat.Coprime.pow_left k ?_
 show Nat.gcd 2 a=1;rw[Nat.gcd_rec,h];rfl
theorem AU: ∀(k d:Nat),2^k∣jL d->2^k∣d
 |0,d,_=>by simp
 |k+1,d,h=>by
  have i:=AY d;have g:2∣jL d:=Nat.dvd_trans ⟨2^k,by simp[Yb,jaL]⟩ h;obtain⟨e,rfl⟩: ∃e,d=e+e:=⟨d / 2,by grind⟩
  have a:jL (e+e)=2*(jL e*(2*jL e+1)):=by
   rw[uB,oX];grind
  rw[a,Yb,jaL] at h;have c:=Nat.dvd_of_mul_dvd_mul_left (by simp) h;have f:=(RW k (2*jL e+1) (by simp)).dvd_of_dvd_mul_right c;obtain⟨q,b⟩:=AU k e f;exact⟨q,by rw[Yb];rw[show 2^k*2*q=2^k*q+2^k*q by grind,<-b]⟩
def BL(M:Nat):Nat->Nat->Nat
 |0,i=>i
 |n+1,i=>(BL M n i*5+1) % M
theorem uo(M i:Nat): ∀n,BL M n i % M=(5^n*i+jL n) % M
 |0=>by simp[BL,jL]
 |n+1=>by
  show(BL M n i*5+1) % M % M=_;rw[Nat.mod_mod,ZT,Nat.mul_mod,uo M i n,<-Nat.mul_mod,<-ZT];congr 1;grind[jL]
theorem Jj {k i m d:Nat}(h:BL (2^k) m i % 2^k=BL (2^k) (m+d) i % 2^k):2^k∣d:=by
 rw[uo,uo,uB,Nat.pow_add] at h;have e:5^m*5^d*i+(5^d*jL m+jL d)=5^m*i+jL m+jL d*(4*(5^m*i+jL m)+1):=by
  rw[oX d];generalize 5^m=a;generalize jL m=b;grind[jL]
 rw[e] at h;have c:(jL d*(4*(5^m*i+jL m)+1)) % 2^k=0:=by
  have f:=Nat.sub_mod_eq_zero_of_mod_eq h.symm;nofun
 exact AU k d ((RW k _ (by grind)).dvd_of_dvd_mul_right (Nat.dvd_of_mod_eq_zero c))
theorem NX {k:Nat}{i:Nat}(o:i<2^k){j:Nat}(p:j<2^k): ∃n,n<2^k/\BL (2^k) n i=j:=by
 have lt: ∀n,BL (2^k) n i<2^k:=λn=>by
  cases n with
  |zero=>exact o
  |succ n=>exact UM _ (Nat.two_pow_pos k)
 have f:((Su (2^k)).map λn=>BL (2^k) n i).Nodup:=by
  rw[jcA,Ug];refine U9 (λ{a b} q g c e=>?_) Uk;rw[SV] at g;obtain⟨d,rfl⟩:=Nat.exists_eq_add_of_lt c;have:=Jj (k:=k) (i:=i) (m:=a) (d:=d+1) (by rw[show a+(d+1)=a+d+1 by rfl,<-e]);have:=Nat.le_of_dvd (by simp) this;omega
 by_cases h:j∈(Su (2^k)).map λn=>BL (2^k) n i
 ·nofun
 ·exfalso
  have l:=rG (n:=2^k) (T5.mpr ⟨h,f⟩) (λz hz=>by
   rcases S6.mp hz with rfl|hz
   ·exact p
   ·obtain⟨n,_,rfl⟩:=SY.mp hz;exact lt n)
  simp at l;grind
abbrev Pb:=SetTable.Probe
def Al(a:Nat)(p:Pb):Pb:=
 if p.more>0 then {p with j:=p.j+1,more:=p.more-1} else
 {p with j:=(WT a p.i p.perturb).1,more:=TV a (WT a p.i p.perturb).1- (WT a p.i p.perturb).1,i:=(WT a p.i p.perturb).1,perturb:=(WT a p.i p.perturb).2}
theorem za(t:T4)(p:Pb):t.advance p=Al t.mask p:=rfl
theorem C5(a:Nat)(p:Pb)(d:Option Nat):Al a {p with dummy:=d}={Al a p with dummy:=d}:=by
 unfold Al;dsimp only;split<;>rfl
def jz(a i perturb:Nat)(d:Option Nat):Pb:={j:=i,more:=TV a i-i,i:=i,perturb:=perturb,dummy:=d}
def dE(a:Nat):Nat->Pb->Pb
 |0,p=>p
 |n+1,p=>dE a n (Al a p)
theorem lH(a m:Nat): ∀(n:Nat) (p:Pb),dE a (n+m) p=dE a m (dE a n p)
 |0,p=>by rw[Xe];rfl
 |n+1,p=>by rw[jaM];exact lH a m n (Al a p)
theorem gM(a n:Nat)(p:Pb):dE a (n+1) p=Al a (dE a n p):=lH a 1 n p
theorem jR(a:Nat)(d:Option Nat): ∀(n:Nat) (p:Pb),dE a n {p with dummy:=d}={dE a n p with dummy:=d}
 |0,p=>rfl
 |n+1,p=>by
  show dE a n (Al a {p with dummy:=d})=_;rw[C5,jR a d n];rfl
theorem vp(a:Nat): ∀(n:Nat) (p:Pb),n<=p.more->dE a n p={p with j:=p.j+n,more:=p.more-n}
 |0,p,_=>rfl
 |n+1,p,h=>by
  show dE a n (Al a p)=_;have:Al a p={p with j:=p.j+1,more:=p.more-1}:=if_pos (by omega);rw[this,vp a n _ (by grind)];lia
theorem xx(a:Nat)(p:Pb):dE a (p.more+1) p=jz a ((p.i*5+1+p.perturb / 32) % (a+1)) (p.perturb / 32) p.dummy:=by
 rw[gM,vp a p.more p (SB _)];unfold Al;dsimp only;rw[jeQ,if_neg (by simp)];rfl
theorem CH(a i perturb:Nat)(d:Option Nat):(jz a i perturb d).more<=9:=by
 show TV a i-i<=9;grind[TV]
def lp(a:Nat):Nat->Nat×Nat->Nat×Nat
 |0,x=>x
 |n+1,x=>lp a n ((x.1*5+1+x.2 / 32) % (a+1),x.2 / 32)
theorem Ab(a:Nat)(d:Option Nat): ∀(n i perturb:Nat),∃m,m<=10*n/\dE a m (jz a i perturb d)=jz a (lp a n (i,perturb)).1 (lp a n (i,perturb)).2 d
 |0,i,perturb=>⟨0,by simp,rfl⟩
 |n+1,i,perturb=>by
  obtain⟨m,c,b⟩:=Ab a d n ((i*5+1+perturb / 32) % (a+1)) (perturb / 32);have e:=CH a i perturb d;refine⟨(jz a i perturb d).more+1+m,by grind,?_⟩;rw[lH,xx];exact b
theorem Kv {k a:Nat}(d:a+1=2^k): ∀(n i:Nat),lp a n (i,0)=(BL (2^k) n i,0):=by
 have b: ∀(n:Nat) (x:Nat),BL (2^k) n ((x*5+1) % 2^k)=BL (2^k) (n+1) x:=by
  intro n
  induction n with
  |zero=>intro x;rfl
  |succ n c=>grind[BL]
 intro n
 induction n with
 |zero=>intro i;rfl
 |succ n c=>
  intro i;show lp a n ((i*5+1+0 / 32) % (a+1),0 / 32)=_;nofun
theorem HP(a:Nat): ∀(m n:Nat) (x:Nat×Nat),lp a (m+n) x=lp a n (lp a m x)
 |0,n,x=>by rw[Xe];rfl
 |m+1,n,x=>by rw[jaM];exact HP a m n _
theorem B0(a:Nat): ∀(n i perturb:Nat),(lp a n (i,perturb)).2=perturb / 32^n
 |0,i,perturb=>by simp[lp]
 |n+1,i,perturb=>by
  show(lp a n _).2=_;simp[B0,Nat.div_div_eq_div_mul,XG]
theorem Lo(a:Nat): ∀(n:Nat) (x:Nat×Nat),x.1<=a->(lp a n x).1<=a
 |0,x,h=>h
 |n+1,x,_=>Lo a n _ (Wi.mp (UM _ (by simp)))
theorem EM {k a:Nat}(c:a+1=2^k){i perturb:Nat}(d:i<=a)(f:perturb<2^64){j:Nat}(h:j<=a): ∃n,n<=13+a/\(lp a n (i,perturb)).1=j:=by
 have b:lp a 13 (i,perturb)=((lp a 13 (i,perturb)).1,0):=by
  have:=B0 a 13 i perturb;grind[Prod.ext]
 obtain⟨n,g,e⟩:=NX (k:=k) (i:=(lp a 13 (i,perturb)).1) (by have:=Lo a 13 (i,perturb) d;grind) (j:=j) ⋯;refine⟨13+n,⋯,?_⟩;rw[HP,b,Kv c];exact e
def tT(a:Nat)(h:Int)(d:Option Nat):Pb:=jz a (TD h % (a+1)) (TD h) d
def Jx(a:Nat)(h:Int)(m:Nat):Nat:=(dE a m (tT a h Sr)).j
theorem M1(a:Nat)(h:Int)(m:Nat)(d:Option Nat):(dE a m (tT a h d)).j=Jx a h m:=by
 have:tT a h d={tT a h Sr with dummy:=d}:=rfl;rw[this,jR];rfl
theorem B8(h:Int):TD h<2^64:=by
 simp[TD,jat]
theorem MR {k a:Nat}(c:a+1=2^k)(h:Int){j:Nat}(d:j<=a): ∃m,m<=10*(13+a)/\Jx a h m=j:=by
 obtain⟨n,g,e⟩:=EM c (i:=TD h % (a+1)) (perturb:=TD h) (Wi.mp (UM _ (by simp))) (B8 h) d;obtain⟨m,f,b⟩:=Ab a Sr n (TD h % (a+1)) (TD h);refine⟨m,by grind,?_⟩;show(dE a m (jz a (TD h % (a+1)) (TD h) Sr)).j=j;rw[b];exact e
def Ris(xs:Array Nat):Prop:=xs.toList.Pairwise (·< ·)
theorem Ris.lt(r:Ris xs){i j:Nat}(c:i<j)(e:xs[i]? =p5 a)(d:xs[j]? =p5 b):a<b:=by
 rw[<-Tk] at e d;obtain⟨g,h⟩:=SK.mp e;obtain⟨f,k⟩:=SK.mp d;have:=Ui.mp r i j g f c;nofun
theorem Ris.inj(r:Ris xs){i j:Nat}(c:xs[i]? =p5 a)(b:xs[j]? =p5 a):i=j:=by
 rcases VF i j with h|h|h
 ·exact absurd (r.lt h c b) ⋯
 ·exact h
 ·exact absurd (r.lt h b c) (by simp)
structure Bel(xs:Array Nat)(j p:Nat):Prop where
 le:p<=xs.size
 lo: ∀i a,i<p->xs[i]? =p5 a->a<j
 hi: ∀i a,p<=i->xs[i]? =p5 a->j<=a
theorem yK {xs:Array Nat}(r:Ris xs)(j:Nat): ∀(fuel d b:Nat),b-d<=fuel->d<=b->b<=xs.size->(∀i a,i<d->xs[i]? =p5 a->a<j)->(∀i a,b<=i->xs[i]? =p5 a->j<=a)->Bel xs j (jaN xs j fuel d b)
 |0,d,b,p,o,g,k,h=>by
  have:d=b:=by grind
  subst this;exact⟨g,k,h⟩
 |fuel+1,d,b,p,o,g,k,h=>by
  unfold jaN
  by_cases f:d<b
  ·rw[if_pos f];dsimp only;have s:(d+b) / 2<xs.size:=by lia
   have n:xs[(d+b) / 2]? =p5 xs[(d+b) / 2]:=Tl s;have q:xs.getD ((d+b) / 2) j=xs[(d+b) / 2]:=by nofun
   rw[q]
   by_cases c:xs[(d+b) / 2]<j
   ·rw[if_pos c];refine yK r j fuel _ b ⋯ ⋯ g (λi a l m=>?_) h
    by_cases e:i=(d+b) / 2
    ·nofun
    ·exact Zi (r.lt ⋯ m n) c
   ·rw[if_neg c];refine yK r j fuel d _ (by grind) (by omega) ⋯ k (λi a l m=>?_)
    by_cases e:i=(d+b) / 2
    ·nofun
    ·have:=r.lt (by grind) n m;grind
  ·rw[if_neg f];have:d=b:=by lia
   subst this;exact⟨g,k,h⟩
theorem PH(r:Ris xs)(j:Nat):Bel xs j (Td xs j):=yK r j _ _ _ (by simp) (by simp) (by simp) (λi a h _=>absurd h (by simp)) λi a h e=>by
 nofun
theorem tW(r:Ris xs){j i:Nat}(h:xs[i]? =p5 j):Td xs j=i:=by
 have b:=PH r j;rcases VF i (Td xs j) with c|c|c
 ·exact absurd (b.lo i j c h) (by simp)
 ·exact c.symm
 ·have lt:Td xs j<xs.size:=Zi c (Ud.mp h).1;have e:xs[Td xs j]? =p5 xs[Td xs j]:=Tl lt;have d:=b.hi _ _ (SB _) e;have a:=r.lt c e h;lia
theorem iY {xs:Array Nat}(r:Ris xs)(j:Nat):Yc xs j=S1↔j∈xs.toList:=by
 unfold Yc;rw[beq_iff_eq];constructor
 ·intro h;rw[<-Tk] at h;exact Tj h
 ·intro h;obtain⟨i,a⟩:=TK.mp h;rw[Tk] at a;rw[tW r a];exact a
structure TOk(t:T4)(hs:List Int):Prop where
 pw: ∃k,3<=k/\k<=12/\t.mask+1=2^k
 sz:t.place.size=hs.length
 sp:Ris t.place
 sd:Ris t.dummies
 lp: ∀j∈t.place.toList,j<=t.mask
 ld: ∀j∈t.dummies.toList,j<=t.mask
 dj: ∀j∈t.dummies.toList,j∉t.place.toList
 fl:t.fill<=t.mask
 rc: ∀x∈hs.zip t.place.toList,∃m,Jx t.mask x.1 m=x.2/\ ∀m',m'<m->Jx t.mask x.1 m'∈t.place.toList\/Jx t.mask x.1 m'∈t.dummies.toList
def rD(t:T4)(j:Nat):Prop:=j∈t.place.toList\/j∈t.dummies.toList
section
variable {t:T4}{hs:List Int}(T:TOk t hs)
include T
theorem TOk.mask:t.mask<=4095:=by
 obtain⟨k,b,a,e⟩:=T.pw;have:=TW (n:=2) (by simp) a;omega
theorem TOk.noway:t.gaveWay=false:=by
 obtain⟨k,b,a,e⟩:=T.pw;unfold SetTable.gaveWay;grind
theorem mq(h:t.place[i]? =p5 j):t.slot j=.live i:=by
 unfold jak;rw[tW T.sp h,if_pos (by nofun)]
theorem pE(h:j∈t.dummies.toList):t.slot j=.dummy:=by
 unfold jak;have e: ¬(t.place[Td t.place j]? ==p5 j)=true:=λw=>by
  rw[beq_iff_eq,<-Tk] at w;exact T.dj j h (Tj w)
 dsimp only;rw[if_neg e,if_pos ((iY T.sd j).mpr h)]
theorem zg(h: ¬rD t j):t.slot j=.empty:=by
 unfold jak;have e: ¬(t.place[Td t.place j]? ==p5 j)=true:=λw=>by
  rw[beq_iff_eq,<-Tk] at w;exact h (.inl (Tj w))
 dsimp only;rw[if_neg e,if_neg λw=>h (.inr ((iY T.sd j).mp w))]
theorem TOk.room: ∃j,j<=t.mask/\ ¬rD t j:=by
 refine Uj λh=>?_
 have d: ∀j,j<=t.mask->rD t j:=λj c=>Uj λn=>h ⟨j,c,n⟩
 have k:(t.place.toList++t.dummies.toList).Nodup:=by
  refine TX.mpr ⟨T.sp.imp λh=>S7 h,T.sd.imp λh=>S7 h,λa f b g e=>?_⟩;subst e;exact T.dj _ g f
 have:t.mask+1<=(t.place.toList++t.dummies.toList).length:=by
  have l:(Su (t.mask+1)).length<=(t.place.toList++t.dummies.toList).length:=by
   refine U7 Uo λj c=>?_
   rw[SV] at c;rw[Tf];exact d j ⋯
  nofun
 have i:=T.fl;unfold jal at i;grind[S8]
theorem TOk.first(h:Int): ∃M,M<=10*(13+t.mask)/\ ¬rD t (Jx t.mask h M)/\ ∀m,m<M->rD t (Jx t.mask h m):=by
 obtain⟨k,_,_,e⟩:=T.pw;obtain⟨j,i,o⟩:=T.room;obtain⟨m,d,p⟩:=MR e h i;have l: ∀n,(∃m,m<=n/\ ¬rD t (Jx t.mask h m))-> ∃M,M<=n/\ ¬rD t (Jx t.mask h M)/\ ∀m,m<M->rD t (Jx t.mask h m):=by
  intro n
  induction n with
  |zero=>rintro⟨m,d,q⟩;nofun
  |succ n g=>
   rintro⟨m,d,q⟩
   by_cases c: ∃m,m<=n/\ ¬rD t (Jx t.mask h m)
   ·obtain⟨M,f,a,b⟩:=g c;exact⟨M,⋯,a,b⟩
   ·have:m=n+1:=Uj λw=>c ⟨m,⋯,q⟩
    grind
 obtain⟨M,f,a,b⟩:=l (10*(13+t.mask)) ⟨m,d,by nofun⟩;exact⟨M,f,a,b⟩
end
def PU(t:T4)(h:Int)(M:Nat)(d:Option Nat):Prop:= ∀x,d=p5 x->x∈t.dummies.toList/\ ∃m,m<M/\Jx t.mask h m=x
def N9(t:T4)(Xw:Nat->Int)(h:Int)(m n:Nat):Prop:= ∀a,m<=a->a<n-> ∀i:Nat,t.place[i]? =p5 (Jx t.mask h a)->Xw i≠h
theorem uO(a:Nat)(h:Int)(m:Nat)(d:Option Nat):dE a m (tT a h d)=⟨Jx a h m,(dE a m (tT a h Sr)).more,(dE a m (tT a h Sr)).i,(dE a m (tT a h Sr)).perturb,d⟩:=jR a d m (tT a h Sr)
section
variable {t:T4}{hs:List Int}(T:TOk t hs)
include T
theorem pc(Xw:Nat->Int)(s: ¬rD t (Jx t.mask h M))(p: ∀m,m<M->rD t (Jx t.mask h m)): ∀(fuel m:Nat) (d:Option Nat),M<m+fuel->m<=M->PU t h M d->
 ∃r,YD t Xw h fuel (dE t.mask m (tT t.mask h d))=p5 r/\
  ((∃d',r=.empty (Jx t.mask h M) d'/\PU t h M d'/\N9 t Xw h m M)\/
   (∃c i d',m<=c/\c<M/\t.place[i]? =p5 (Jx t.mask h c)/\Xw i=h/\r=.candidate (Jx t.mask h c) i (dE t.mask (c+1) (tT t.mask h d'))/\PU t h M d'/\N9 t Xw h m c))
 |0,m,d,z,C,_=>absurd z ⋯
 |fuel+1,m,d,z,C,u=>by
  unfold YD;rw[M1]
  by_cases D:m=M
  ·subst D;rw[zg T s];have F:(dE t.mask m (tT t.mask h d)).dummy=d:=by rw[uO]
   exact⟨_,rfl,.inl ⟨d,by rw[F],u,λg a b=>absurd a (by grind)⟩⟩
  ·have lt:m<M:=by lia
   rcases p m lt with j|j
   ·obtain⟨i,k⟩:=TK.mp j;rw[Tk] at k;rw[mq T k];dsimp only
    by_cases o:Xw i=h
    ·rw[if_pos (beq_iff_eq.mpr o),za,<-gM];exact⟨_,rfl,.inr ⟨m,i,d,SB _,lt,k,o,rfl,u,λg a b=>absurd a ⋯⟩⟩
    ·rw[if_neg (λw=>o (beq_iff_eq.mp w)),za,<-gM];obtain⟨r,y,v⟩:=pc Xw s p fuel (m+1) d ⋯ ⋯ u;have A: ∀n,N9 t Xw h (m+1) n->N9 t Xw h m n:=λn q g a b l f=>by
      by_cases e:g=m
      ·subst e;rw[T.sp.inj f k];exact o
      ·exact q g ⋯ b l f
     refine⟨r,y,?_⟩;rcases v with⟨d',e,B,q⟩|⟨c,l,d',a,b,G,H,I,B,q⟩
     ·exact .inl ⟨d',e,B,A _ q⟩
     ·grind
   ·rw[pE T j];dsimp only;have e:(⟨Jx t.mask h m,(dE t.mask m (tT t.mask h d)).more,(dE t.mask m (tT t.mask h d)).i,(dE t.mask m (tT t.mask h d)).perturb,p5 (Jx t.mask h m)⟩:Pb)=dE t.mask m (tT t.mask h (p5 (Jx t.mask h m))):=by
     rw[uO,uO t.mask h m (p5 _)]
    rw[za,e,<-gM];obtain⟨r,y,v⟩:=pc Xw s p fuel (m+1) (p5 (Jx t.mask h m)) ⋯ ⋯ (λx E=>by cases E;exact⟨j,m,lt,rfl⟩);have A: ∀n,N9 t Xw h (m+1) n->N9 t Xw h m n:=λn q g a b l f=>by
     by_cases e:g=m
     ·subst e;exact absurd (Tj (by rw[Tk];exact f)) (T.dj _ j)
     ·exact q g ⋯ b l f
    grind
end
theorem eG {α:Type}(xs:Array α)(p:Nat):(TJ xs p).toList=xs.toList.eraseIdx p:=by
 simp[TJ,Xr,Xf]
theorem sI {l:List Nat}(r:l.Pairwise (·< ·))(f:l[p]? =p5 j)(x:Nat):x∈l.eraseIdx p↔x∈l/\x≠j:=by
 rw[Xx];constructor
 ·rintro⟨i,d,e⟩;refine⟨Tj e,λw=>d ?_⟩;subst w;obtain⟨b,m⟩:=SK.mp e;obtain⟨a,k⟩:=SK.mp f;rcases VF i p with c|c|c
  ·have:=Ui.mp r i p b a c;nofun
  ·exact c
  ·have:=Ui.mp r p i a b c;nofun
 ·rintro⟨h,d⟩;obtain⟨i,g⟩:=TK.mp h;exact⟨i,λw=>by nofun,g⟩
theorem oO {xs:Array Nat}(r:Ris xs)(n:j∉xs.toList):Ris (TB xs (Td xs j) j):=by
 have b:=PH r j;unfold Ris;rw[Uq,ZU];have g: ∀a∈xs.toList.take (Td xs j),a<j:=λa e=>by
  obtain⟨i,d⟩:=TK.mp e;rw[List.getElem?_take] at d;split at d
  ·rename_i c;rw[Tk] at d;exact b.lo i a c d
  nofun
 have f: ∀a∈xs.toList.drop (Td xs j),j<a:=λa e=>by
  obtain⟨i,d⟩:=TK.mp e;rw[List.getElem?_drop] at d;have k:=Tj d;rw[Tk] at d;have:=b.hi _ a (Xy _ _) d;grind
 refine⟨Wo (jaO _ _) r,?_,λa e c h=>?_⟩
 ·exact UN.mpr ⟨f,Wo (List.drop_sublist _ _) r⟩
 grind
theorem qG {α:Type}(xs:Array α)(p:Nat)(x y:α):y∈(TB xs p x).toList↔y=x\/y∈xs.toList:=by
 rw[Uq,Tf,S6];grind[ZG]
def eT {α:Type}(l:List α)(p:Nat)(x:α):List α:=l.take p++x::l.drop p
theorem Iv {α β:Type}(l:List α)(m:List β)(p:Nat)(a:α)(b:β)(h:l.length=m.length):(eT l p a).zip (eT m p b)=eT (l.zip m) p (a,b):=by
 unfold eT;rw[List.zip_append (by nofun),jau];simp[List.zip,List.take_zipWith,List.drop_zipWith]
theorem TOk.put {t:T4}(T:TOk t hs)(r:j<=t.mask)(n:j∉t.place.toList)(u: ∃m,Jx t.mask h m=j/\ ∀b,b<m->rD t (Jx t.mask h b))
 (p:(t.put j).1.fill<=t.mask):TOk (t.put j).1 (eT hs (t.put j).2 h):=by
 have o:(t.put j).1.place.toList=eT t.place.toList (t.put j).2 j:=Uq _ _ _;have f: ∀y,y∈(t.put j).1.place.toList↔y=j\/y∈t.place.toList:=qG t.place _ j
 have k: ∀y,y∈(t.put j).1.dummies.toList↔y∈t.dummies.toList/\y≠j:=λy=>by
  show y∈(if Yc t.dummies j=S1 then TJ t.dummies (Td t.dummies j) else t.dummies).toList↔_;split
  ·rename_i c
   have s:=(iY T.sd j).mp c;obtain⟨i,l⟩:=TK.mp s;rw[eG,tW T.sd (by rw[<-Tk];exact l)];exact sI T.sd l y
  ·rename_i c
   exact⟨λq=>⟨q,λw=>c ((iY T.sd j).mpr (w▸q))⟩,λq=>q.1⟩
 have us: ∀y,rD t y->y∈(t.put j).1.place.toList\/y∈(t.put j).1.dummies.toList:=λy q=>by
  rcases q with q|q
  ·exact .inl ((f y).mpr (.inr q))
  grind
 refine⟨T.pw,?_,oO T.sp n,?_,λy q=>?_,λy q=>T.ld y ((k y).mp q).1,λy q w=>?_,p,λx a=>?_⟩
 ·rw[<-S8,o];unfold eT;have:=T.sz;nofun
 ·show Ris (if Yc t.dummies j=S1 then TJ t.dummies (Td t.dummies j) else t.dummies);split
  ·unfold Ris;rw[eG];exact Wo (Vx _ _) T.sd
  ·exact T.sd
 ·rcases(f y).mp q with rfl|q
  ·exact r
  ·exact T.lp y q
 ·have g:=(k y).mp q;rcases(f y).mp w with rfl|w
  ·exact g.2 rfl
  ·exact T.dj y g.1 w
 ·rw[o,Iv _ _ _ _ _ (by rw[S8];exact T.sz.symm)] at a;unfold eT at a;have a:x=(h,j)\/x∈hs.zip t.place.toList:=by
   grind[ZV]
  rcases a with rfl|a
  ·obtain⟨m,e,q⟩:=u;exact⟨m,e,λb d=>us _ (q b d)⟩
  ·obtain⟨m,e,q⟩:=T.rc x a;exact⟨m,e,λb d=>us _ (q b d)⟩
theorem TOk.drop {t:T4}{c:List Int}(T:TOk t c)(l:t.place[i]? =p5 j):TOk (t.drop i) (c.eraseIdx i):=by
 have u:t.drop i={t with place:=TJ t.place i,dummies:=TB t.dummies (Td t.dummies j) j}:=by
  unfold jdH;rw[l]
 have a:t.place.toList[i]? =p5 j:=by nofun
 have r:j∈t.place.toList:=Tj a;have lt:i<t.place.size:=(Ud.mp l).1;rw[u];have d:(TJ t.place i).toList=t.place.toList.eraseIdx i:=eG _ _;have h: ∀y,y∈(TJ t.place i).toList↔y∈t.place.toList/\y≠j:=λy=>by rw[d];exact sI T.sp a y
 have f:=qG t.dummies (Td t.dummies j) j;have us: ∀y,rD t y->y∈(TJ t.place i).toList\/y∈(TB t.dummies (Td t.dummies j) j).toList:=λy q=>by
  rcases q with q|q
  ·by_cases e:y=j
   ·exact .inr ((f y).mpr (.inl e))
   ·exact .inl ((h y).mpr ⟨q,e⟩)
  ·exact .inr ((f y).mpr (.inr q))
 refine⟨T.pw,?_,?_,oO T.sd λw=>T.dj j w r,λy q=>T.lp y ((h y).mp q).1,λy q=>?_,λy q w=>?_,?_,λx p=>?_⟩
 ·show(TJ t.place i).size=_;rw[<-S8,d,Vd,Vd,S8,T.sz]
 ·show Ris (TJ t.place i);unfold Ris;rw[d];exact Wo (Vx _ _) T.sp
 ·rcases(f y).mp q with rfl|q
  ·exact T.lp y r
  ·exact T.ld y q
 ·have o:=(h y).mp w;rcases(f y).mp q with rfl|q
  ·exact o.2 rfl
  ·exact T.dj y q o.1
 ·show(TJ t.place i).size+(TB t.dummies (Td t.dummies j) j).size<=t.mask;have s:=T.fl;unfold jal at s;rw[<-S8,d,Vd,<-S8 (xs:=TB _ _ _),Uq,if_pos (by omega)];simp;lia
 ·have p:x∈(c.eraseIdx i).zip (t.place.toList.eraseIdx i):=by nofun
  have:x∈c.zip t.place.toList:=by
   obtain⟨n,k⟩:=TK.mp p;rw[U4,Zj,Zj] at k;obtain⟨g,b⟩:=k;split at g
   ·rw[if_pos (by omega)] at b;exact TK.mpr ⟨n,U4.mpr ⟨g,b⟩⟩
   ·rw[if_neg (by omega)] at b;exact TK.mpr ⟨n+1,U4.mpr ⟨g,b⟩⟩
  obtain⟨m,e,q⟩:=T.rc x this;exact⟨m,e,λz v=>us _ (q z v)⟩
abbrev mO:=Array (Option Nat)
def Ig(a:mO)(j:Nat):Prop:=a[j]? =p5 Sr
def Kk(a:mO)(j:Nat):Prop:= ∃k,a[j]? =p5 (p5 k)
theorem ub {a:mO}:(a.getD j (p5 0)).isNone=S1↔Ig a j:=by
 unfold Ig jav
 by_cases h:j<a.size
 ·nofun
 ·simp[h]
theorem yz {a:mO}(h:j<a.size)(n: ¬Ig a j):Kk a j:=by
 unfold Ig at n;unfold Kk;rw[Tl h] at n⊢;cases e:a[j] with
 |none=>nofun
 |some k=>exact⟨k,rfl⟩
def Jl(a i p m:Nat):Nat:=(dE a m (jz a i p Sr)).j
theorem mN(a:i<=mask):TV mask i<=mask/\i<=TV mask i:=by
 grind[TV]
theorem yo(h:i+m<=TV mask i):Jl mask i p m=i+m:=by
 unfold Jl;rw[vp mask m _ (show m<=TV mask i-i by grind)];rfl
theorem BJ(a i p m:Nat):Jl a i p ((TV a i-i)+1+m)=Jl a ((i*5+1+p / 32) % (a+1)) (p / 32) m:=by
 unfold Jl;rw[lH];have:=xx a (jz a i p Sr);have e:(jz a i p Sr).more=TV a i-i:=rfl;rw[e] at this;rw[this];rfl
theorem Ai{b:mO}(hz:b.size=mask+1): ∀(fuel i p:Nat),i<=mask->(∃n,n<fuel/\Ig b (lp mask n (i,p)).1)->
 ∃j m,UX mask b fuel i p=p5 j/\Ig b j/\Jl mask i p m=j/\ ∀a,a<m->Kk b (Jl mask i p a)
 |0,i,p,_,⟨n,h,_⟩=>absurd h (WY _)
 |fuel+1,i,p,q,⟨n,h,d⟩=>by
  have v:=mN q;unfold UX;cases e:(Su (TV mask i+1-i)).find? λk=>(b.getD (i+k) (p5 0)).isNone with
  |some k=>
   have o:=List.find?_some e;have g:k<TV mask i+1-i:=SV.mp (WO e);refine⟨i+k,k,rfl,ub.mp o,yo (by omega),λa f=>?_⟩;rw[yo (by grind)];refine yz (by grind) λw=>?_
   rw[List.find?_range_eq_some] at e;have:=e.2.2 a f;rw[ub.mpr w] at this;nofun
  |none=>
   have no: ∀k,k<TV mask i+1-i-> ¬Ig b (i+k):=λk g w=>by
    have:=Yl.mp e k (SV.mpr g);exact this (ub.mpr w)
   dsimp only;obtain⟨j,m,s,u,r,l⟩:=Ai hz fuel ((i*5+1+p / 32) % (mask+1)) (p / 32) (Wi.mp (UM _ (by simp))) (by
    cases n with
    |zero=>exact absurd d (no 0 (by omega))
    |succ n=>exact⟨n,by nofun,d⟩)
   refine⟨j,(TV mask i-i)+1+m,s,u,by rw[BJ];exact r,λa f=>?_⟩
   by_cases c:a<=TV mask i-i
   ·rw[yo (by omega)];exact yz (by grind) (no a (by grind))
   ·obtain⟨t,rfl⟩:=Nat.exists_eq_add_of_le (show TV mask i-i+1<=a by lia);rw[BJ];exact l t (by nofun)
structure ue(mask:Nat)(ow:mO)(hs:List Int):Prop where
 sz:ow.size=mask+1
 lt: ∀(j k:Nat),ow[j]? =p5 (p5 k)->k<hs.length
 un: ∀(j j' k:Nat),ow[j]? =p5 (p5 k)->ow[j']? =p5 (p5 k)->j=j'
 ex: ∀(k:Nat) (h:Int),hs[k]? =p5 h-> ∃j m:Nat,ow[j]? =p5 (p5 k)/\Jx mask h m=j/\ ∀m',m'<m->Kk ow (Jx mask h m')
theorem ue.room{d:List Int}(I:ue mask ow d)(q:d.length<=mask): ∃j,j<=mask/\Ig ow j:=by
 refine Uj λh=>?_
 have i: ∀j,j<=mask->Kk ow j:=λj c=>yz (by rw[I.sz];lia) λw=>h ⟨j,c,w⟩
 let f:Nat->Nat:=λj=>((ow[j]?).getD Sr).getD 0
 have g: ∀j,j<=mask->ow[j]? =p5 (p5 (f j)):=λj c=>by
  obtain⟨k,e⟩:=i j c;show _=p5 (p5 (((ow[j]?).getD Sr).getD 0));rw[e];rfl
 have l:((Su (mask+1)).map f).Nodup:=by
  rw[jcA,Ug];refine U9 (λ{a b} p m o e=>?_) Uk;rw[SV] at p m;have:=I.un a b (f a) (g a ⋯) (by rw[e];exact g b ⋯);nofun
 have:=rG l (n:=d.length) λz hz=>by
  obtain⟨j,c,rfl⟩:=SY.mp hz;exact I.lt j _ (g j (by rw[SV] at c;grind))
 simp at this;lia
theorem HJ {k a:Nat}(D:a+1=2^k){i:mO}{f:List Int}(I:ue a i f)(C:f.length<=a)(h:Int):
 ∃j,UX a i (Vs a) (TD h % (a+1)) (TD h)=p5 j/\ue a (i.setIfInBounds j (p5 f.length)) (f++[h]):=by
 obtain⟨M,F,v⟩:=I.room C;have u:TD h % (a+1)<=a:=Wi.mp (UM _ (by simp));obtain⟨n,K,e⟩:=EM D u (B8 h) F;obtain⟨j,m,B,o,G,E⟩:=Ai I.sz (Vs a) _ _ u ⟨n,by unfold Vs;grind,by rw[e];exact v⟩;have L:j<i.size:=by
  unfold Ig at o;exact(Ud.mp o).1
 have l: ∀x,(i.setIfInBounds j (p5 f.length))[x]? =if j=x then p5 (p5 f.length) else i[x]? :=λx=>by
  grind
 have g: ∀x,Kk i x->Kk (i.setIfInBounds j (p5 f.length)) x:=λx s=>by
  obtain⟨q,b⟩:=s;unfold Kk;rw[l];split
  ·exact⟨_,rfl⟩
  ·exact⟨q,b⟩
 refine⟨j,B,by rw[Array.size_setIfInBounds];exact I.sz,λx q b=>?_,λx J q b d=>?_,λq z hz=>?_⟩
 ·rw[l] at b;rw[S5,UE];split at b
  ·nofun
  ·have:=I.lt x q b;lia
 ·rw[l] at b d;split at b
  ·rename_i c
   cases b;split at d
   ·nofun
   ·have:=I.lt _ _ d;nofun
  ·split at d
   ·cases d;have:=I.lt _ _ b;nofun
   ·exact I.un x J q b d
 ·by_cases c:q<f.length
  ·rw[TF c] at hz;obtain⟨x,r,y,A,H⟩:=I.ex q z hz;refine⟨x,r,?_,A,λt p=>g _ (H t p)⟩;rw[l,if_neg λw=>?_]
   ·exact y
   ·subst w;unfold Ig at o;lia
  ·have b:q=f.length:=by
    grind[UE]
   subst b;rw[Ue (SB _),jeQ] at hz;cases hz;exact⟨j,m,by nofun,G,λr p=>g _ (E r p)⟩
theorem Ax(i:mask+1=2^k): ∀(a b:List Int) (c:mO),ue mask c b->b.length+a.length<=mask+1->
 ∃d,a.foldl (λacc h=>do
  let(owner,k) <-acc
  let j <-UX mask owner (Vs mask) (TD h % (mask+1)) (TD h)
  pure (owner.setIfInBounds j (p5 k),k+1)) (p5 (c,b.length))=p5 (d,b.length+a.length)/\ue mask d (b++a)
 | [],b,c,I,_=>⟨c,rfl,by nofun⟩
 |h::a,b,c,I,l=>by
  rw[SX] at l;obtain⟨j,e,m⟩:=HJ i I ⋯ h;obtain⟨d,g,f⟩:=Ax i a (b++[h]) _ m (by rw[S5,UE];lia);rw[S5,UE] at g;refine⟨d,?_,by rw[Wt] at f;exact f⟩
  rw[Vi];have:(do
   let(owner,k) <-some (c,b.length)
   let j <-UX mask owner (Vs mask) (TD h % (mask+1)) (TD h)
   pure (owner.setIfInBounds j (p5 k),k+1):Option (mO×Nat))=p5 (c.setIfInBounds j (p5 b.length),b.length+1):=by
   show(UX mask c (Vs mask) (TD h % (mask+1)) (TD h)).bind (λj=>p5 (c.setIfInBounds j (p5 b.length),b.length+1))=_;rw[e];rfl
  rw[this,g,SX];congr 2;omega
theorem Cu(a:Nat):ue a (jck (a+1) Sr) [] where
 sz:=by simp
 lt:=λj k h=>by
  rw[YO] at h;nofun
 un:=λj b k h=>by
  simp[YO]
 ex:=λk h e=>by simp at e
def ib(a:Nat)(b:mO):List (Nat×Nat):=(Su (a+1)).filterMap λj=>(b.getD j Sr).map (j, ·)
theorem EC {a:Nat}{b:mO}(hz:b.size=a+1){x:Nat×Nat}:x∈ib a b↔b[x.1]? =p5 (p5 x.2):=by
 unfold ib;rw[Ym];constructor
 ·rintro⟨j,c,e⟩;rw[SV] at c;have:j<b.size:=by nofun
  simp only[jav,this,dite_true] at e;obtain⟨k,f,rfl⟩:=S0.mp e;nofun
 ·intro h;obtain⟨g,d⟩:=Ud.mp h;refine⟨x.1,SV.mpr (by omega),?_⟩;nofun
theorem xB(a:Nat)(b:mO):((ib a b).map (·.1)).Pairwise (·< ·):=by
 unfold ib;have: ∀l:List Nat,(l.filterMap λj=>(b.getD j Sr).map (j, ·)).map (·.1)=l.filter λj=>(b.getD j Sr).isSome:=by
  intro l
  induction l with
  |nil=>rfl
  |cons j l c=>
   rw[X7,VV];cases e:b.getD j none with
   |none=>exact c
   |some k=>show j::_=_;rw[c];rfl
 rw[this];exact US _ Uk
theorem AK(F:3<=k)(t:k<=12)(B:mask+1=2^k)(c d:Nat)(led plain:Bool)(l:Array Int)(P:l.size<=mask):
 ∃n g:Array Nat,YQ mask c d led plain l=p5 (⟨mask,n, #[],c,led,d,plain⟩,g)/\g.toList.Perm (Su l.size)/\
  TOk ⟨mask,n, #[],c,led,d,plain⟩ (g.toList.map λk=>l.toList.getD k 0):=by
 obtain⟨i,e,I⟩:=Ax B l.toList [] _ (Cu mask) (by simp;lia);rw[Wj] at I;have r:jaP mask l=p5 i:=by
  unfold jaP;rw[<-Array.foldl_toList];have e:l.toList.foldl _ (p5 (jck (mask+1) Sr,0))=_:=e;rw[e];rfl
 have f:= @EC mask i I.sz;have v:((ib mask i).map (·.2)).Nodup:=by
  rw[jcA,Ug];have:=xB mask i;rw[Ug] at this;refine this.imp_of_mem λ{a b} J C G w=>?_
  have s:=f.mp J;have z:=f.mp C;rw[<-w] at z;have:=I.un _ _ _ s z;nofun
 have A: ∀k,k∈(ib mask i).map (·.2)↔k∈Su l.size:=λk=>by
  rw[SY,SV];constructor
  ·rintro⟨x,o,rfl⟩;have:=I.lt _ _ (f.mp o);omega
  ·intro h;obtain⟨j,m,s,_⟩:=I.ex k (l.toList[k]'(by omega)) (SJ _);exact⟨(j,k),f.mpr s,rfl⟩
 have H: ∀x,Kk i x->x∈(ib mask i).map (·.1):=λx ⟨q,D⟩=>SY.mpr ⟨(x,q),f.mpr D,rfl⟩
 refine⟨((ib mask i).map (·.1)).toArray,((ib mask i).map (·.2)).toArray,?_,?_,⟨k,F,t,B⟩,?_,?_,?_,?_,?_,?_,?_,?_⟩
 ·unfold YQ;rw[r];rfl
 ·exact(TC v Uo).mpr A
 ·simp
 ·exact xB mask i
 ·exact Wu
 ·intro j u;obtain⟨x,o,rfl⟩:=SY.mp u;have:=(Ud.mp (f.mp o)).1;show x.1<=mask;rw[I.sz] at this;lia
 ·intro j u;nofun
 ·intro j u;nofun
 ·show((ib mask i).map (·.1)).toArray.size+0<=mask;have L:=((TC v Uo).mpr A).length_eq;nofun
 ·intro x o;have o:x∈((((ib mask i).map (·.2)).map λk=>l.toList.getD k 0)).zip ((ib mask i).map (·.1)):=o;rw[S4,List.zip_map'] at o;obtain⟨y,K,rfl⟩:=SY.mp o;have p:=f.mp K;have lt:=I.lt _ _ p;obtain⟨j,m,E,N,O⟩:=I.ex y.2 (l.toList[y.2]'lt) (SJ _);have M:=I.un _ _ _ E p;grind
theorem kC: ∀(fuel s n:Nat),n<s*2^fuel-> ∃e,e<=fuel/\Xs n fuel s=s*2^e/\n<s*2^e/\(e=0\/s*2^e<=2*n)
 |0,s,n,h=>⟨0,by simp,by simp[Xs],h,.inl rfl⟩
 |fuel+1,s,n,h=>by
  unfold Xs
  by_cases c:s<=n
  ·rw[if_pos c];obtain⟨e,f,b,d,a⟩:=kC fuel (s*2) n (by rw[XG] at h;rw[YR];exact h);refine⟨e+1,by nofun,by rw[b,XG,YR],by rw[XG,<-YR];exact d,.inr ?_⟩;rw[XG,<-YR];rcases a with rfl|a
   ·simp;grind
   omega
  ·rw[if_neg c];exact⟨0,by simp,by simp,by simp;nofun,.inl rfl⟩
theorem hZ(f:n<=4095): ∃k,3<=k/\k<=12/\TN n=2^k/\n<2^k:=by
 obtain⟨e,g,d,h,b⟩:=kC 64 8 n (SZ f (by simp));have a:8*2^e=2^(3+e):=by rw[Nat.pow_add]
 refine⟨3+e,by simp,?_,d.trans a,by nofun⟩;rcases b with rfl|b
 ·simp
 ·refine Uj λc=>?_
  have:=TW (n:=2) (by simp) (show 13<=3+e by lia);rw[<-a] at this;have:(2:Nat)^13=8192:=by simp
  grind
open PySem PySem.Spec PyProof.Rows
def th(ks:List Int):Int:=reduceHash (jdx (ks.map hashInt))
abbrev KI(prog:S9)(w:Tu):HeapKind prog w (List Int):=W6 (intKind prog w)
theorem As(prog:S9)(w:Tu)(ks:List Int):(KI prog w).hash ks=th ks:=rfl
def xt(x:List Int×Addr):Int×Value:=(th x.1,.ref x.2)
abbrev fT:=List (List Int×Addr)
def qm(xs:fT):List Int:=xs.map λx=>th x.1
def sK(prog:S9)(w:Tu)(h:Heap)(xs:fT):Prop:= ∀x∈xs,(KI prog w).is h x.1 x.2
structure SetAt(w:Tu)(o:Obj)(es:Array (Int×Sw))(ep:Nat)(t:T4)(xs:fT):Prop where
 ex:o.ExactSet
 hd:o.data=.set es ep t
 he:es.toList=xs.map xt
 T:TOk t (qm xs)
 led:t.led= !w.params.followText "set-order"
 pl:t.plain=S1
 nd:(xs.map (·.1)).Nodup
section
variable {A:Tr}{s:Sx}{b:Addr}{es:Array (Int×Sw)}{t:T4}{xs:fT}
theorem SetAt.size(S:SetAt w o es ep t xs):es.size=xs.length:=by
 have:=congrArg Ua S.he;simpa using this
theorem SetAt.fits(S:SetAt w o es ep t xs):t.fits es.size=true:=by
 have a:=S.T.sz;have b:=S.T.fl;unfold qm at a;rw[SO] at a;unfold SetTable.fits;rw[S.size,a];simp[b]
theorem SetAt.at_(S:SetAt w o es ep t xs)(i:Nat):es[i]? =(xs[i]?).map xt:=by
 rw[<-Tk,S.he,Uh]
theorem mT {k:List Int}(g:(KI prog w).is s.heap k b)(h:Q Pa s):SL (model prog w) A (YE 8 (.ref b)) Q E s:=by
 have l:=jaQ (s:=s) g;obtain⟨o,items,n,m,q,j,i⟩:=g;unfold YE;refine Ss (jaR l ?_);dsimp only;rw[if_pos (by rfl)];refine Ss (Sv ?_);simp only[Wn,SW,if_false];refine Ss (Yn m j ?_);dsimp only;refine Ss ?_
 rw[<-jaw];refine Xz _ (λc r s'=>r.1=Sr/\s'=s/\ ∀v∈c,carriedByValue v=S1) _ ?_ ?_ _ _ ⟨rfl,rfl,i.byValue⟩
 ·rintro v c r s' ⟨f,rfl,d⟩;have hv:=d v SM;have:YE 7 v=pure false:=by
   cases v with
   |ref a=>simp[carriedByValue] at hv
   |_=>rfl
  rw[this];refine Ss (Sv ?_);simp only[SW,if_false];exact Sv ⟨rfl,rfl,λu e=>d u (SI _ e)⟩
 ·rintro⟨p,t⟩ s' ⟨f,rfl,_⟩;simp only at f;subst f;exact Sv h
theorem tX {k:List Int}(i:(KI prog w).is s.heap k b)(hv: ∀v∈vs,∃f c,v=.ref c/\(KI prog w).is s.heap f c)(h:Q Pa s):SL (model prog w) A (jaS (.ref b) vs) Q E s:=by
 unfold jaS;refine Ss ?_
 refine Xz _ (λd r s'=>r.1=Sr/\s'=s/\ ∀v∈d,∃f c,v=.ref c/\(KI prog w).is s.heap f c) _ ?_ ?_ _ _ ⟨rfl,rfl,hv⟩
 ·rintro v d r s' ⟨j,rfl,a⟩;obtain⟨f,c,rfl,g⟩:=a v SM;dsimp only;split
  ·exact Sv ⟨rfl,rfl,λu e=>a u (SI _ e)⟩
  ·refine Ss ((KI prog w).quiet i ?_);simp only[Wn,SW,if_false];refine Ss ((KI prog w).quiet g ?_);simp only[Wn,SW,if_false];refine Ss (mT i ?_);simp only[SW,if_false];refine Ss (mT g ?_);simp only[SW,if_false];exact Sv ⟨rfl,rfl,λu e=>a u (SI _ e)⟩
 grind[Sv]
def QN(es:Array (Int×Sw))(i:Nat):Int:=(es[i]?.map (·.1)).getD 0
theorem CS {α:Type}{m:Sem Bool}{U R:Sem α}{c:Bool}{Q:α->Sx->Prop}(e:SL (model prog w) A R Q E s)(a:SL (model prog w) A m (λb s'=>b=Pa/\s'=s) E s):
 SL (model prog w) A (if c=S1 then(m>>=λx=>if x=S1 then U else R) else R) Q E s:=by
 split
 ·refine Ss (Tv a (λb s' ⟨f,d⟩=>?_) λ_ _ x=>x);nofun
 omega
theorem m8(Z:s.heap.get? a=p5 o)(S:SetAt w o es ep t xs)(X:sK prog w s.heap xs)(hu:A.units<Tq)(N:(KI prog w).is s.heap k b)(f:Bool)(hM:M<=10*(13+t.mask))
 (h1: ¬rD t (Jx t.mask (th k) M)) (h2: ∀m,m<M->rD t (Jx t.mask (th k) m))
 (l: ∀(i:Nat) (c:Addr),xs[i]? =p5 (k,c)->Q (.there (if f then Sr else p5 i)) s)
 (u:k∉xs.map (·.1)-> ∀(d:Option Nat),PU t (th k) M d->Q (.free (d.getD (Jx t.mask (th k) M)) d.isSome) s):
 ∀(fuel m:Nat) (st:Option Pb) (d:Option Nat),M<m+fuel->m<=M->PU t (th k) M d->st.getD (t.probeStart (th k))=dE t.mask m (tT t.mask (th k) d)->
  (∀(i:Nat) (c:Addr) (j:Nat),xs[i]? =p5 (k,c)->t.place[i]? =p5 j-> ∃h,m<=h/\h<M/\Jx t.mask (th k) h=j)->
  SL (model prog w) A (setSearchFrom a (.ref b) (th k) f fuel st) Q E s
 |0,m,st,d,q1,q2,_,_,_=>absurd q1 ⋯
 |fuel+1,m,st,d,q1,q2,hd,I,n=>by
  have T:=S.T;have Y:(KI prog w).room A:=hu;have hsz: ∀i:Nat,(∃j,t.place[i]? =p5 j)↔ ∃x,xs[i]? =p5 x:=λi=>by
   have e1:=T.sz;unfold qm at e1;rw[SO] at e1;constructor
   ·rintro⟨j,W⟩;have:=(Ud.mp W).1;exact⟨_,SJ (show i<xs.length by nofun)⟩
   ·rintro⟨x,g⟩;have:=(SK.mp g).1;nofun
  unfold setSearchFrom;refine Ss (TQ Z S.hd S.fits ?_);dsimp only;rw[T.noway];simp only[SW,if_false];rw[I];unfold SetTable.probe;obtain⟨r,hr,hc⟩:=pc T (QN es) h1 h2 (10*Vs t.mask) m d (by grind[Vs]) q2 hd;generalize hP:YD t _ (th k) _ _=P;obtain rfl:P=some r:=hP.symm.trans hr;dsimp only;have q: ∀(i:Nat) (x:List Int×Addr),xs[i]? =p5 x->QN es i=th x.1:=λi x g=>by
   unfold QN;rw[S.at_,g];rfl
  rcases hc with⟨d',rfl,D,L⟩|⟨c,i,d',a1,a2,C,a4,rfl,D,L⟩
  ·have nk:k∉xs.map (·.1):=λw=>by
    obtain⟨x,g,rfl⟩:=SY.mp w;obtain⟨i,R⟩:=TK.mp g;obtain⟨j,W⟩:=(hsz i).mpr ⟨x,R⟩;obtain⟨h,J,K,U⟩:=n i x.2 j R W;exact L h J K i (by nofun) (q i x R)
   have:=u nk d' D;dsimp only;cases d' with
   |none=>exact Sv this
   |some z=>
    dsimp only;have e:(f&&t.slot z !=jgC)=false:=by
     rw[pE T (D z rfl).1];simp
    rw[e];simp only[SW,if_false];exact Sv this
  ·obtain⟨x,g⟩:=(hsz i).mp ⟨_,C⟩;have ex:es[i]? =p5 (th x.1,.ref x.2):=by rw[S.at_,g];rfl
   have O:=Tj g;have H:=X x O;dsimp only;refine CS ?_ (tX N (λv hv=>?_) ⟨rfl,rfl⟩)
   ·rw[ex];dsimp only;refine Ss (TM ((KI prog w).eqBool (x:=x.1) (y:=k) Y H N ?_));refine Ss (TQ Z S.hd S.fits ?_);dsimp only;have sm:t.sameMemory t.moves t.mask=p5 true:=by simp[SetTable.sameMemory]
    by_cases ek:x.1=k
    ·rw[v3 ek];have F:=l i x.2 (by rw[g,<-ek]);cases f with
     |true=>simp only[jam,if_true];exact Sv F
     |false=>
      simp only[jcC,SW,if_false];rw[sm];dsimp only;rw[if_pos rfl,mq T C];dsimp only;rw[ex];dsimp only;refine Ss (ZH ?_);simp only[if_true];refine Ss (Sv ?_);dsimp only;exact Sv F
    ·rw[v7 ek,jcD];simp only[SW,if_false];rw[sm];dsimp only;rw[if_pos rfl,mq T C];dsimp only;rw[ex];dsimp only;refine Ss (ZH ?_);simp only[if_true];refine Ss (Sv ?_);dsimp only;refine m8 Z S X hu N f hM h1 h2 l u fuel (c+1) _ d' ⋯ ⋯ D rfl λV c' j' p B=>?_
     obtain⟨h,J,K,U⟩:=n V c' j' p B;refine⟨h,?_,K,U⟩;refine Uj λw=>?_
     by_cases e:h=c
     ·subst e;have:=T.sp.inj C (by rw[U];exact B);lia
     ·exact L h J ⋯ V (by nofun) (q V _ p)
   ·obtain⟨e,G,rfl⟩:=SY.mp hv;have G:e∈es:=(Array.mem_filter.mp (VG.mp G)).1;have G:e∈xs.map xt:=by rw[<-S.he];nofun
    obtain⟨y,F,rfl⟩:=SY.mp G;exact⟨y.1,y.2,rfl,X y F⟩
end
theorem L7(a:Nat)(p:Pb)(h:p.j+p.more<=a):(Al a p).j+(Al a p).more<=a:=by
 unfold Al;split
 ·lia
 ·have b:(WT a p.i p.perturb).1<=a:=Wi.mp (UM _ (by simp));have:=mN b;nofun
theorem O6(a:Nat)(h:Int)(m:Nat):Jx a h m<=a:=by
 have: ∀m,(dE a m (tT a h Sr)).j+(dE a m (tT a h Sr)).more<=a:=λm=>by
  induction m with
  |zero=>
   have b:TD h % (a+1)<=a:=Wi.mp (UM _ (by simp));have:=mN b;show TD h % (a+1)+(TV a (TD h % (a+1)) -TD h % (a+1))<=a;nofun
  |succ m c=>rw[gM];exact L7 a _ c
 have:=this m;unfold Jx;lia
structure de(w:Tu)(o:Obj)(es:Array (Int×Sw))(ep:Nat)(t:T4)(xs:fT):Prop extends SetAt w o es ep t xs where
 f5:t.fill*5<t.mask*3
section
variable {A:Tr}{s:Sx}{a:Addr}{es:Array (Int×Sw)}{t:T4}{xs:fT}
theorem oW(I:s.heap.get? a=p5 o)(S:SetAt w o es ep t xs)(G:sK prog w s.heap xs)(J:A.units<Tq)(D:(KI prog w).is s.heap k b)(f:Bool)
 (g: ∀(i:Nat) (c:Addr),xs[i]? =p5 (k,c)->Q (.there (if f then Sr else p5 i)) s)
 (h:k∉xs.map (·.1)-> ∀(j:Nat) (p:Bool),j<=t.mask->(p=S1->j∈t.dummies.toList)->(p=Pa-> ¬rD t j)->(∃m,Jx t.mask (th k) m=j/\ ∀l,l<m->rD t (Jx t.mask (th k) l))->Q (.free j p) s):
 SL (model prog w) A (setSearch a (.ref b) (th k) f) Q E s:=by
 obtain⟨M,C,r,n⟩:=S.T.first (th k);have O:=S.T.mask;unfold setSearch;refine m8 I S G J D f C r n g (λv d B=>?_) 100000 0 Sr Sr ⋯ (by simp) (λx K=>by nofun) rfl λi c j N F=>?_
 ·cases d with
  |none=>exact h v _ _ (O6 _ _ _) (λw=>by nofun) (λ_=>r) ⟨M,rfl,n⟩
  |some z=>
   obtain⟨u,m,L,H⟩:=B z rfl;exact h v z S1 (S.T.ld z u) (λ_=>u) (λw=>by nofun) ⟨m,H,λl P=>n l ⋯⟩
 ·obtain⟨y,e,q⟩:=S.T.rc (th k,j) (TK.mpr ⟨i,U4.mpr ⟨by unfold qm;nofun,by nofun⟩⟩);refine⟨y,by simp,?_,e⟩;have R:rD t j:=.inl (Tj (by rw[Tk];exact F));rcases VF y M with c|c|c
  ·exact c
  ·nofun
  ·exact absurd (q M c) r
theorem qp(b:Addr)(es:Array (Int×Sw)):byScan (.ref b) es=false:=rfl
theorem wX(f:s.heap.get? a=p5 o)(S:SetAt w o es ep t xs)(g:sK prog w s.heap xs)(h:A.units<Tq)(l:(KI prog w).is s.heap k b)
 (d: ∀(i:Nat) (c:Addr),xs[i]? =p5 (k,c)->Q (p5 i) s) (e:k∉xs.map (·.1)->Q Sr s):SL (model prog w) A (setFind a (.ref b) (th k)) Q E s:=by
 unfold setFind setFindIn;refine Ss (TQ f S.hd S.fits ?_);dsimp only;rw[qp];simp only[SW,if_false];refine Ss (oW f S g h l Pa (λi c m=>?_) λn j p _ _ _ _=>?_)
 ·exact Sv (d i c m)
 ·exact Sv (e n)
theorem Gy {k:List Int}(m:(KI prog w).is s.heap k b)(h:Q S1 s):SL (model prog w) A (jbU 8 (.ref b)) Q E s:=by
 have g:=jaQ (s:=s) m;obtain⟨o,items,n,j,u,f,e⟩:=m;unfold jbU;refine Ss (XS g F.slot_tuple_hash.lookup ?_);refine Ss (Yn j f ?_);dsimp only;refine Ss ?_
 show SL _ _ (forIn items _ _) _ _ _;rw[<-jaw];have a: ∀v∈items.toList,∃(i:Int) (tk:Tok),v=.int i tk:=by
  intro v hv;clear j f g;generalize items.toList=l at e hv
  induction e with
  |nil=>nofun
  | @cons k y ks vs p _ q=>
    rcases S6.mp hv with rfl|hv
    ·obtain⟨tk,rfl⟩:=jaT p;exact⟨_,_,rfl⟩
    ·exact q hv
 refine Xz _ (λc r s'=>r.1=Sr/\s'=s/\ ∀v∈c,∃(i:Int) (tk:Tok),v=.int i tk) _ ?_ ?_ _ _ ⟨rfl,rfl,a⟩
 ·rintro v c r s' ⟨d,rfl,a⟩;obtain⟨i,tk,rfl⟩:=a v SM;have:jbU 7 (.int i tk)=pure true:=rfl;rw[this];refine Ss (Sv ?_);simp only[Wn,SW,if_false];grind[Sv]
 ·rintro⟨t,x⟩ s' ⟨d,rfl,_⟩;simp only at d;subst d;exact Sv h
theorem rF(S:SetAt w o es ep t xs):(es.map (·.1)).toList=qm xs:=by
 rw[Array.toList_map,S.he,S4];rfl
def n4(xs:fT)(a:List Nat):fT:=a.map λi=>xs.getD i ([],0)
theorem i5 {xs:fT}{a:List Nat}(p:a.Perm (Su xs.length)):(n4 xs a).Perm xs:=by
 have e:(Su xs.length).map (λi=>xs.getD i ([],0))=xs:=by
  refine U8 (by simp) λi c b=>?_
  simp[VW,b]
 have:=p.map λi=>xs.getD i ([],0)
 rw[e] at this;exact this
theorem sH(S:SetAt w o es ep t xs)(hw:wanted<=4095)(n:xs.length*5<wanted*3): ∃(b a:Array Nat) (p:Nat),t.relaid (es.map (·.1)) wanted=p5 (⟨TN wanted-1,b, #[],t.finger,t.led,p,t.plain⟩,a)/\
 a.toList.Perm (Su xs.length)/\(∀(o':Obj) (c:Nat),o'.ExactSet->o'.data=.set (a.filterMap (es[·]?)) c ⟨TN wanted-1,b, #[],t.finger,t.led,p,t.plain⟩->
  de w o' (a.filterMap (es[·]?)) c ⟨TN wanted-1,b, #[],t.finger,t.led,p,t.plain⟩ (n4 xs a.toList))/\(a.filterMap (es[·]?)).size=es.size:=by
 obtain⟨q,y,g,e,G⟩:=hZ hw;have F:(es.map (·.1)).size=xs.length:=by rw[jcE,S.size]
 have H:TN wanted-1+1=2^q:=by grind
 obtain⟨b,a,E,d,r⟩:=AK y g H t.finger (t.movedTo (TN wanted-1)) t.led t.plain (es.map (·.1)) ⋯;rw[F] at d;have lt: ∀i∈a.toList,i<xs.length:=λi f=>SV.mp (d.mem_iff.mp f)
 have s:(a.filterMap (es[·]?)).toList=(n4 xs a.toList).map xt:=by
  rw[Zk];unfold n4;rw[S4];have h: ∀l:List Nat,(∀i∈l,i<xs.length)->l.filterMap (λi=>es[i]?)=l.map (xt∘λi=>xs.getD i ([],0)):=by
   intro l
   induction l with
   |nil=>intro _;rfl
   |cons i l A=>
    intro n;have x:=n i SM;have v:es[i]? =p5 (xt (xs.getD i ([],0))):=by
     rw[S.at_,SJ x];nofun
    rw[X7,v,SD,A λj C=>n j (SI _ C)];rfl
  exact h _ lt
 have D:qm (n4 xs a.toList)=a.toList.map λk=>(es.map (·.1)).toList.getD k 0:=by
  unfold qm n4;rw[S4];refine T9 λi f=>?_
  have:=lt i f;rw[rF S];show th (xs.getD i ([],0)).1=(qm xs).getD i 0;unfold qm;simp[VW,this]
 have u:=i5 d;refine⟨b,a,_,E,d,λo' c m B=>?_,?_⟩
 ·refine⟨⟨m,B,s,by rw[D];exact r,S.led,S.pl,?_⟩,?_⟩
  ·exact((u.map (·.1)).nodup_iff).mpr S.nd
  ·have z:=r.sz;rw[SO,d.length_eq,UB] at z;show(b.size+0)*5<(TN wanted-1)*3;have z:b.size=xs.length:=z;omega
 ·rw[<-S8,s,SO,u.length_eq,S.size]
theorem HY(i:s.heap.get? a=p5 o)(S:SetAt w o es ep t xs)(hw:wanted<=4095)(n:xs.length*5<wanted*3)
 (h: ∀h' o' c g t' f,Tw a s.heap h'->h'.get? a=p5 o'->de w o' c g t' f->f.Perm xs->Q Unit.unit {s with heap:=h'}):SL (model prog w) A (setRelay a wanted) Q E s:=by
 obtain⟨d,b,r,z,u,x,k⟩:=sH S hw n;obtain⟨q,B,j,e,p⟩:=hZ hw
 have v:setRelay a wanted=(do
  let(es,_,t) <-jaU a
  if TN wanted>SU then U2 "set:memory"
  let(es,t) <-(do
   let some (t,b):=t.relaid (es.map (·.1)) wanted|U2 "internal:set-table-without-room"
   let c:=b.filterMap (es[·]?)
   if c.size !=es.size then U2 "internal:set-table-lost-an-element"
   pure (c,t):Sem (Array (Int×Sw)×T4))
  jcF a es t):=rfl
 rw[v];refine Ss (TQ i S.hd S.fits ?_);dsimp only;have y:2^q<=2^12:=TW (by simp) j;rw[if_neg (by rw[e,T8];omega),z];dsimp only;rw[k,bne_self_eq_false];simp only[SW,if_false];refine Ss (Sv ?_);dsimp only;have m:(b.filterMap (es[·]?)).size<=sizeLine:=by
  rw[k,S.size,T8];omega
 refine VH i S.hd ?_ m;have l:=Ts (W3 (b.filterMap (es[·]?)) ⟨TN wanted-1,d, #[],t.finger,t.led,r,t.plain⟩) i (by rw[VX _ _ S.hd];rfl);rw[VX _ _ S.hd] at l;exact h _ _ _ _ _ _ (Tx s.heap a _) l (x _ _ S.ex rfl) (i5 u)
end
theorem HM {t:T4}(T:TOk t hs)(a:Bool)(g:a=S1->j∈t.dummies.toList)(e:a=Pa-> ¬rD t j):(t.put j).1.fill=if a then t.fill else t.fill+1:=by
 have f:(TB t.place (Td t.place j) j).size=t.place.size+1:=by
  have:=congrArg Ua (Uq t.place (Td t.place j) j);rw[S8] at this;rw[this];have b:=(PH T.sp j).le;simp;grind
 show(TB t.place (Td t.place j) j).size+(if Yc t.dummies j=S1 then TJ t.dummies (Td t.dummies j) else t.dummies).size=_;rw[f];unfold jal;cases a with
 |true=>
  have d:=g rfl;obtain⟨i,c⟩:=TK.mp d;rw[Tk] at c;have lt:=(Ud.mp c).1;have k:(TJ t.dummies (Td t.dummies j)).size=t.dummies.size-1:=by
   rw[<-S8,eG,Vd,tW T.sd c,if_pos (by omega),S8]
  rw[if_pos ((iY T.sd j).mpr d),if_pos rfl,k];lia
 |false=>
  have h:=e rfl;rw[if_neg λw=>h (.inr ((iY T.sd j).mp w)),if_neg ()];lia
theorem mn {α β:Type}(f:α->β): ∀(l:List α) (i:Nat),(l.map f).eraseIdx i=(l.eraseIdx i).map f
 | [],_=>rfl
 |_::_,0=>rfl
 |a::l,i+1=>by simp[mn]
section
variable {A:Tr}{xs:fT}
theorem Fx {α:Type}(l:List α)(p:Nat)(x:α):(eT l p x).Perm (l++[x]):=by
 unfold eT;refine Y3.trans ?_
 rw[ZG];exact(List.perm_append_singleton x l).symm
theorem vb(r:s.heap.get? a=p5 o)(S:de w o es ep t xs)(hE:sK prog w s.heap xs)(hu:A.units<Tq)(J:(KI prog w).is s.heap k b)(H:xs.length<=1000)
 (h:k∈xs.map (·.1)->Q Pa s)
 (m:k∉xs.map (·.1)-> ∀h' o' f d t' e,Tw a s.heap h'->h'.get? a=p5 o'->de w o' f d t' e->e.Perm (xs++[(k,b)])->Q S1 {s with heap:=h'}):
 SL (model prog w) A (Zl a (.ref b) (th k)) Q E s:=by
 have u:=S.toSetAt;unfold Zl setAddHashedIn;refine TM (Ss (TQ r S.hd u.fits ?_));dsimp only;rw[qp];simp only[SW,if_false];refine Ss (oW r u hE hu J S1 (λi c V=>?_) λI j B Z l n C=>?_)
 ·exact Sv (h (SY.mpr ⟨(k,c),Tj V,rfl⟩))
 ·dsimp only;refine Ss (TQ r S.hd u.fits ?_);dsimp only;have T:=S.T;have X:j∉t.place.toList:=λw=>by
   cases B with
   |true=>exact T.dj j (l rfl) w
   |false=>exact n rfl (.inl w)
  have fp:=HM T B l n;have f5:=S.f5;obtain⟨q,O,M,qe⟩:=T.pw;have p3:2^3<=2^q:=TW (by simp) O;have Y:(t.put j).1.fill<=t.mask:=by rw[fp];lia
  have T2:=T.put Z X C Y;have pl:(t.put j).1.plain=true:=S.pl;have hsz:=u.size;have K:(TB es (t.put j).2 (th k,Tc b)).toList=(eT xs (t.put j).2 (k,b)).map xt:=by
   rw[Uq,S.he];unfold eT;rw[Tb,SD,jdL,List.map_drop];rfl
  have et:qm (eT xs (t.put j).2 (k,b))=eT (qm xs) (t.put j).2 (th k):=by
   simp[qm,eT]
  have p:=Fx xs (t.put j).2 (k,b);have D:((eT xs (t.put j).2 (k,b)).map (·.1)).Nodup:=by
   refine((p.map (·.1)).nodup_iff).mpr ?_
   rw[Tb,TX];exact⟨S.nd,by simp,λx hx y hy=>by
    grind⟩
  have z:(TB es (t.put j).2 (th k,Tc b)).size=xs.length+1:=by
   rw[<-S8,K,SO,p.length_eq];simp
  have L: ∀(o':Obj) (d:Nat),o'.ExactSet->o'.data=.set (TB es (t.put j).2 (th k,Tc b)) d (t.put j).1->SetAt w o' (TB es (t.put j).2 (th k,Tc b)) d (t.put j).1 (eT xs (t.put j).2 (k,b)):=
   λo' d F N=>⟨F,N,K,by nofun,S.led,pl,D⟩
  have v:=Ts (W3 (TB es (t.put j).2 (th k,Tc b)) (t.put j).1) r (by rw[VX _ _ S.hd];rfl);rw[VX _ _ S.hd] at v;rw[pl];simp only[if_true];refine Ss (Gy J ?_);simp only[if_true];refine Ss (VH r S.hd ?_ (by rw[z,T8];lia));have G:=Tx s.heap a (W3 (TB es (t.put j).2 (th k,Tc b)) (t.put j).1);split
  ·rename_i g
   rw[TR] at g;refine Ss (HY (s:={s with heap:=s.heap.update a (W3 (TB es (t.put j).2 (th k,Tc b)) (t.put j).1)}) v (L _ _ S.ex rfl) ?_ ?_ λh' o' f d t' e P R W U=>?_)
   ·rw[hsz];grind[jcH]
   ·rw[hsz,p.length_eq];grind[jcH]
   ·exact Sv (m I h' o' f d t' e (G.trans P) R W (U.trans p))
  ·rename_i g
   refine Sv (m I _ _ _ _ _ _ G v ⟨L _ _ S.ex rfl,?_⟩ p);show(t.put j).1.fill*5<t.mask*3;rw[fp];cases B with
   |true=>exact f5
   |false=>
    have g: ¬(t.put j).1.tooFull=true:=λw=>g (by rw[w];rfl)
    unfold SetTable.tooFull at g;rw[vu,fp] at g;have:(t.put j).1.mask=t.mask:=rfl;nofun
theorem nr(g:s.heap.get? a=p5 o)(S:de w o es ep t xs)(v:sK prog w s.heap xs)(B:A.units<Tq)(C:(KI prog w).is s.heap k b)(e:xs.length<=1000)
 (m:k∉xs.map (·.1)->Q Pa s)
 (d:k∈xs.map (·.1)-> ∀h' o' n j t' f,Tw a s.heap h'->h'.get? a=p5 o'->de w o' n j t' f->(∃i c,xs[i]? =p5 (k,c)/\f=xs.eraseIdx i)->Q S1 {s with heap:=h'}):
 SL (model prog w) A (Y4 a (.ref b) (th k)) Q E s:=by
 have r:=S.toSetAt;unfold Y4;refine Ss (wX g r v B C (λi c l=>?_) λy=>?_)
 ·dsimp only;refine Ss (TQ g S.hd r.fits ?_);dsimp only;have T:=S.T;have p:=T.sz;unfold qm at p;rw[SO] at p;have H:=(SK.mp l).1;have x:t.place[i]? =p5 (t.place[i]'(by nofun)):=Tl (by nofun);have F:=T.drop x;have u:(TJ es i).toList=(xs.eraseIdx i).map xt:=by
   rw[eG,S.he,mn]
  have D:qm (xs.eraseIdx i)=(qm xs).eraseIdx i:=by simp[qm,mn]
  have z:(TJ es i).size<=1000:=by
   rw[<-S8,u,SO];exact Tz (Y5 _ _) e
  have q:=Ts (W3 (TJ es i) (t.drop i)) g (by rw[VX _ _ S.hd];rfl);rw[VX _ _ S.hd] at q;have h:t.drop i={t with place:=TJ t.place i,dummies:=TB t.dummies (Td t.dummies (t.place[i]'(by nofun))) (t.place[i]'(by nofun))}:=by
   unfold jdH;nofun
  refine Ss (VH g S.hd ?_ (by rw[T8];omega));refine Ss (wpAny_point ?_);refine Sv (d (SY.mpr ⟨(k,c),Tj l,rfl⟩) _ _ _ _ _ (xs.eraseIdx i) (Tx s.heap a _) q ⟨⟨S.ex,rfl,u,by rw[D];exact F,by rw[h];exact S.led,by rw[h];exact S.pl,?_⟩,?_⟩ ⟨i,c,l,rfl⟩)
  ·rw[<-mn];exact V8 (Vx _ _) S.nd
  ·have G:=S.f5;have I:(t.drop i).fill=t.fill:=by
    rw[h];show(TJ t.place i).size+(TB t.dummies _ _).size=t.place.size+t.dummies.size;rw[<-S8,eG,Vd,<-S8 (xs:=TB _ _ _),Uq,if_pos (by nofun)];have b:=(PH T.sd (t.place[i]'(by nofun))).le;simp;omega
   nofun
 ·exact Sv (m y)
end
abbrev aP:=Sum Int Str
def sL:aP->Sw->Bool
 | .inl k,v=>jfO k v
 | .inr x,v=>jdM x v
def Rx(w:Tu):aP->Int
 | .inl k=>hashInt k
 | .inr x=>hashStr w x
theorem cT: ∀ {k:aP} {v:Sw},sL k v=S1->(∃i t,k=Wv i/\v=W7 i t)\/(∃x t,k=jcw x/\v=jeu x t)
 | .inl i,v,h=>by
   obtain⟨t,e⟩:=jaT (k:=i) (v:=v) h;exact .inl ⟨i,t,rfl,e⟩
 | .inr x,v,h=>by
   obtain⟨t,e⟩:=Value.isStrOf_shape (x:=x) (v:=v) h;exact .inr ⟨x,t,rfl,e⟩
theorem Cs(i:Int)(t:Tok):sL (.inl i) (.int i t)=true:=by simp[sL,jfO]
theorem Dz(x:Str)(t:Tok):sL (.inr x) (.str x t)=true:=by grind[sL,jdM]
theorem NL(a b:Int):decide ((Wv a:aP)=Wv b)=(a==b):=by
 by_cases e:a=b
 ·subst e;simp
 nofun
theorem NN(a b:Str):decide ((jcw a:aP)=jcw b)=Oo (a=b):=by
 simp
theorem Mq(a:Int)(b:Str):decide ((Wv a:aP)=jcw b)=false:=v7 (λq=>nomatch q)
theorem Mv(a:Str)(b:Int):decide ((jcw a:aP)=Wv b)=false:=v7 (λq=>nomatch q)
def bR(prog:S9)(w:Tu):PySem.KeyKind prog w aP where
 is:=sL
 hash:=Rx w
 inj:=λv a b ha hb=>by
  grind[cT]
 byValue:=λk v h=>by
  rcases cT h with⟨i,t,rfl,rfl⟩|⟨x,t,rfl,rfl⟩<;>rfl
 pyHash:=λhv h=>by
  rcases cT hv with⟨i,t,rfl,rfl⟩|⟨x,t,rfl,rfl⟩
  ·exact wpAny_pyHash_int h
  ·exact wpAny_pyHash_str h
 eqBool:=λhu hv h=>by
  rcases cT hu with⟨i,t,rfl,rfl⟩|⟨x,t,rfl,rfl⟩
  ·rcases cT hv with⟨j,u,rfl,rfl⟩|⟨y,u,rfl,rfl⟩
   ·rw[NL] at h;exact jbw h
   ·rw[Mq] at h;exact SeqAt.EqAt.int_str i t y u _ _ _ _ h
  ·rcases cT hv with⟨j,u,rfl,rfl⟩|⟨y,u,rfl,rfl⟩
   ·rw[Mv] at h;exact SeqAt.EqAt.str_int x t j u _ _ _ _ h
   ·rw[NN] at h;exact wpAny_eqBool_str h
 «strs»:=λk x t v h=>by
  rcases cT h with⟨i,u,rfl,e⟩|⟨y,u,rfl,e⟩
  ·nofun
  ·injection e with e1 _
   subst e1;cases v<;>rfl
theorem wb(prog:S9)(w:Tu)(i:Int)(t:Tok):(bR prog w).is (.inl i) (.int i t)=true:=Cs i t
theorem wP(prog:S9)(w:Tu)(x:Str)(t:Tok):(bR prog w).is (.inr x) (.str x t)=true:=Dz x t
inductive V where
 |non|bl (b:Bool)|int (i:Int)|str (x:Str)|byt (b:Array UInt8)|flt (b:UInt64)|ref (a:Addr)|ty (n:String)
 deriving DecidableEq
def b6:V->Sw->Prop
 | .non,u=>u=Tn
 | .bl b,u=>u=jhq b
 | .int i,u=> ∃t,u=W7 i t
 | .str x,u=> ∃t,u=jeu x t
 | .byt b,u=> ∃t,u=Value.bytes b t
 | .flt b,u=> ∃t,u=Value.float b t
 | .ref a,u=>u=Tc a
 | .ty n,u=>u=jax n
abbrev cc:List V->List Sw->Prop:=Paired b6
theorem cc.length {xs:List V}{us:List Sw}(r:cc xs us):xs.length=us.length:=UF r
theorem cc.get: ∀ {xs:List V} {us:List Sw} {i:Nat} {x:V},cc xs us->xs[i]? =p5 x-> ∃u,us[i]? =p5 u/\b6 x u
 |_,_,_,_,.nil,e=>by simp at e
 |_,_,0,_,.cons r _,e=>by simp at e;subst e;exact⟨_,rfl,r⟩
 |_,_,i+1,x,.cons _ t,e=>by
  obtain⟨u,b,a⟩:=cc.get (i:=i) (x:=x) t (by simpa using e);exact⟨u,by simpa using b,a⟩
theorem cc.set(r:b6 x u): ∀ {xs:List V} {us:List Sw} (i:Nat),cc xs us->cc (xs.set i x) (us.set i u)
 |_,_,_,.nil=>.nil
 |_,_,0,.cons _ t=>.cons r t
 |_,_,i+1,.cons q t=>.cons q (cc.set r i t)
theorem cc.append: ∀ {xs ys:List V} {us a:List Sw},cc xs us->cc ys a->cc (xs++ys) (us++a)
 |_,_,_,_,.nil,s=>s
 |_,_,_,_,.cons r t,s=>.cons r (cc.append t s)
theorem cc.take: ∀ {xs:List V} {us:List Sw} (n:Nat),cc xs us->cc (xs.take n) (us.take n)
 |_,_,0,_=>.nil
 |_,_,_+1,.nil=>.nil
 |_,_,n+1,.cons r t=>.cons r (cc.take n t)
theorem cc.drop: ∀ {xs:List V} {us:List Sw} (n:Nat),cc xs us->cc (xs.drop n) (us.drop n)
 |_,_,0,r=>r
 |_,_,_+1,.nil=>.nil
 |_,_,n+1,.cons _ t=>cc.drop n t
def oa:Option V->Option Sw->Prop
 |some v,some u=>b6 v u
 |none,none=>True
 |_,_=>False
def KV {κ:Type}:List (κ×V)->List (κ×Sw)->Prop:=Paired λ(p:κ×V) (q:κ×Sw)=>p.1=q.1/\b6 p.2 q.2
def kV:aP->V
 | .inl i=>.int i
 | .inr x=>.str x
inductive HO where
 |lst (xs:List V)
 |tup (xs:List V)
 |dK (kvs:List (aP×V))|dT (kvs:List (List aP×V))
 |set (S:Int->Bool) (n:Nat)
 |tst (xs:List (List Int×Addr))
 |ins (C dx:Addr) (fs:List (Str×V))
 |own (x:Addr)
 |xd (fs:List (Str×V))
 |met (f x:Addr)
 |rng (lo hi:Int)
 |frz (o:Obj) (u:HO)
 |nst (p:Addr) (u:HO)
 |tbl (ps:Array Sw)
 |ext (φ:Heap->Prop)
abbrev Hp:=Addr->Option HO
def aW(H:Hp)(a:Addr)(o:HO):Hp:=λb=>if b=a then p5 o else H b
theorem aA:aW H a o a=p5 o:=by simp[aW]
theorem az(h:b≠a):aW H a o b=H b:=by unfold aW;rw[if_neg h]
theorem Ay:aW (aW H a o) a u=aW H a u:=by
 funext b;unfold aW;nofun
theorem Lp {H:Hp}(h:H a=p5 o)(h':H b=p5 u)(d:o≠u):a≠b:=by
 intro e;nofun
theorem bF {H:Hp}(h:H a=p5 o)(h':H b=Sr):a≠b:=by
 intro e;nofun
section
variable(P:S9)(w:Tu)
def ci(H:Hp)(h:Heap)(a:Addr):HO->Prop
 | .lst xs=>xs.length<=SU/\ ∃(b:List Sw) (n:Nat),cc xs b/\h.get? a=p5 {cls:=.type "list",data:=.seq b.toArray n}
 | .tup xs=>xs.length<=SU/\ ∃b:List Sw,cc xs b/\IsTup h a b.toArray/\ ∃o,h.get? a=p5 o/\o.dict=Sr
 | .dK kvs=>kvs.length<=SU/\(a==UP)=Pa/\ ∃vs,KV kvs vs/\h.DictOf (bR P w) a vs
 | .dT kvs=>kvs.length<=SU/\(a==UP)=Pa/\ ∃xs:List (List aP×Addr×Sw),
    Paired (λ(p:List aP×V) (q:List aP×Addr×Sw)=>p.1=q.1/\H q.2.1=p5 (.tup (p.1.map kV))/\b6 p.2 q.2.2) kvs xs/\
    ∃o es ep,h.get? a=p5 o/\o.ExactDict/\o.data=.dict es ep/\es.toList=xs.map (entryOfKey (W6 (bR P w)))/\(xs.map (·.1)).Nodup
 | .set S n=>h.SetOf (intKind P w) a S n
 | .tst xs=> ∃o es ep t,h.get? a=p5 o/\de w o es ep t xs
 | .ins C e d=>H e=p5 (.own a)/\d.length<=1000/\e≠a/\h.get? a=p5 (W.instObj C e)/\
    ∃c,h.Ns1 e c/\(∀f,oa (d.lookup f) (c f))/\PySem.Within c (d.map (·.1))
 | .own _=> ∃o,h.get? a=p5 o
 | .xd d=> ∃c,h.Ns1 a c/\ ∀f,oa (d.lookup f) (c f)
 | .rng k j=> ∃t u v,h.get? a=p5 {cls:=.type "range",data:=.fields #[.int k t,.int j u,.int 1 v]}
 | .frz o u=>h.get? a=p5 o/\ci H h a u
 | .nst _ u=>ci H h a u
 | .tbl l=>h.get? a=p5 {cls:=.none,data:=.fields l}
 | .met f x=>h.get? a=p5 (jbV (.ref f) (.ref x))
 | .ext φ=>φ h/\(∃o,h.get? a=p5 o)/\ ∀i g:Heap,φ i->(∀o,i.get? a=p5 o->g.get? a=p5 o)->φ g
def HOk(H:Hp)(h:Heap):Prop:= ∀a o,H a=p5 o->ci P w H h a o
end
section
variable {h h':Heap}
theorem ci.lt(x:ci P w H h a o):a<h.objs.size:=by
 induction o with
 |lst xs=>obtain⟨_,_,_,_,e⟩:=x;exact SH e
 |tup xs=>obtain⟨_,_,_,p,_⟩:=x;exact p.lt
 |dK kvs=>obtain⟨_,_,_,_,o,_,_,e,_⟩:=x;exact SH e
 |dT kvs=>obtain⟨_,_,_,_,o,_,_,e,_⟩:=x;exact SH e
 |set S n=>obtain⟨o,_,_,_,e,_⟩:=x;exact SH e
 |tst xs=>obtain⟨o,_,_,_,e,_⟩:=x;exact SH e
 |ins C i c=>obtain⟨_,_,_,e,_⟩:=x;exact SH e
 |own y=>obtain⟨_,e⟩:=x;exact SH e
 |xd c=>obtain⟨_,⟨_,_,_,e,_⟩,_⟩:=x;exact SH e
 |rng g d=>obtain⟨_,_,_,e⟩:=x;exact SH e
 |frz ob u b=>obtain⟨e,_⟩:=x;exact SH e
 |nst p u b=>exact b x
 |tbl j=>exact SH (show h.get? a=p5 _ from x)
 |met f y=>exact SH (show h.get? a=p5 _ from x)
 |ext φ=>obtain⟨_,⟨_,e⟩,_⟩:=x;exact SH e
theorem Paired.mapP {α β:Type}{F G:α->β->Prop}: ∀ {l₁:List α} {l₂:List β},Paired F l₁ l₂->(∀a b,F a b->G a b)->Paired G l₁ l₂
 |_,_,.nil,_=>.nil
 |_,_,.cons r t,f=>.cons (f _ _ r) (Paired.mapP t f)
theorem ci.stay(x:ci P w H h a o)(k: ∀b u,(b=a\/H b=p5 (.own a))->h.get? b=p5 u->h'.get? b=p5 u)
 (G: ∀b,H b=p5 (.own a)->H' b=p5 (.own a)) (D: ∀b xs,H b=p5 (.tup xs)->H' b=p5 (.tup xs)):ci P w H' h' a o:=by
 induction o with
 |lst xs=>obtain⟨z,g,n,r,e⟩:=x;exact⟨z,g,n,r,k _ _ (.inl rfl) e⟩
 |tup xs=>obtain⟨z,g,r,⟨ob,e,c⟩,l,j,F⟩:=x;exact⟨z,g,r,⟨ob,k _ _ (.inl rfl) e,c⟩,l,k _ _ (.inl rfl) j,F⟩
 |dK kvs=>obtain⟨z,y,vs,r,ob,es,ep,e,c⟩:=x;exact⟨z,y,vs,r,ob,es,ep,k _ _ (.inl rfl) e,c⟩
 |dT kvs=>
  obtain⟨z,y,xs,r,ob,es,ep,e,c⟩:=x;exact⟨z,y,xs,Paired.mapP r λp q z=>⟨z.1,D _ _ z.2.1,z.2.2⟩,ob,es,ep,k _ _ (.inl rfl) e,c⟩
 |set S n=>obtain⟨ob,es,ep,t,e,c⟩:=x;exact⟨ob,es,ep,t,k _ _ (.inl rfl) e,c⟩
 |tst xs=>obtain⟨ob,es,ep,t,e,c⟩:=x;exact⟨ob,es,ep,t,k _ _ (.inl rfl) e,c⟩
 |ins C J B=>
  obtain⟨d,z,E,e,m,⟨s,es,ep,j,c⟩,r⟩:=x;exact⟨G _ d,z,E,k _ _ (.inl rfl) e,m,⟨s,es,ep,k _ _ (.inr d) j,c⟩,r⟩
 |own y=>obtain⟨ob,e⟩:=x;exact⟨ob,k _ _ (.inl rfl) e⟩
 |xd B=>obtain⟨m,⟨s,es,ep,e,c⟩,r⟩:=x;exact⟨m,⟨s,es,ep,k _ _ (.inl rfl) e,c⟩,r⟩
 |rng I K=>obtain⟨t,u,v,e⟩:=x;exact⟨t,u,v,k _ _ (.inl rfl) e⟩
 |frz ob u i=>obtain⟨e,q⟩:=x;exact⟨k _ _ (.inl rfl) e,i q⟩
 |nst p u i=>exact i x
 |tbl A=>
  have e:h.get? a=p5 {cls:=.none,data:=.fields A}:=x;show h'.get? a=p5 {cls:=.none,data:=.fields A};exact k a _ (.inl rfl) e
 |met f y=>
  have e:h.get? a=p5 (jbV (.ref f) (.ref y)):=x;show h'.get? a=p5 (jbV (.ref f) (.ref y));exact k a _ (.inl rfl) e
 |ext φ=>obtain⟨p,⟨o,e⟩,st⟩:=x;exact⟨st _ _ p λo q=>k _ _ (.inl rfl) q,⟨o,k _ _ (.inl rfl) e⟩,st⟩
theorem HOk.lt(x:HOk P w H h)(e:H a=p5 o):a<h.objs.size:=(x a o e).lt
theorem HOk.fresh(x:HOk P w H h)(e:h.objs.size<=a):H a=none:=by
 cases q:H a with
 |none=>rfl
 |some u=>exact absurd (SQ (x.lt q) e) (TH _)
theorem HOk.kept(x:HOk P w H h)(k: ∀b u,h.get? b=p5 u->h'.get? b=p5 u):HOk P w H h':=λa o e=>
 (x a o e).stay (λb u _ q=>k b u q) (λ_ q=>q) λ_ _ q=>q
theorem HOk.laid(x:HOk P w H h)(k: ∀b u,h.get? b=p5 u->h'.get? b=p5 u)(g:h.objs.size<=a)(i:ci P w (aW H a o) h' a o):HOk P w (aW H a o) h':=λb u e=>by
 have d:=x.fresh g
 by_cases f:b=a
 ·grind[aA]
 ·rw[az f] at e;exact(x b u e).stay (λc v _ q=>k c v q) (λc q=>by rw[az (bF q d)];exact q) λc xs q=>by rw[az (bF q d)];exact q
end
def Rd(H:Hp)(a:Addr)(u:HO):Prop:=H a=p5 u\/ ∃o,H a=p5 (.frz o u)
theorem Rd.ok(r:Rd H a u)(x:HOk P w H h):ci P w H h a u:=by
 rcases r with r|⟨o,r⟩
 ·exact x a u r
 ·obtain⟨_,q⟩:=x a _ r;exact q
def MP:Option HO->Prop
 |some (.lst _)=>True
 |some (.dK _)=>True
 |some (.dT _)=>True
 |some (.set _ _)=>True
 |some (.tst _)=>True
 |some (.ins _ _ _)=>True
 |some (.ext _)=>True
 |some (.nst _ _)=>True
 |_=>False
section
variable {h h':Heap}
theorem HOk.write(ok:HOk P w H h)(f:MP (H x))(o:e=x\/H e=p5 (.own x))(k: ∀b u,b≠e->h.get? b=p5 u->h'.get? b=p5 u)(g: ∃u,h'.get? e=p5 u)
 (n:ci P w (aW H x o') h' x o'):HOk P w (aW H x o') h':=λb u q=>by
 have d: ∀c y,H c=p5 (.own y)->c≠x:=λc y r z=>by subst z;rw[r] at f;exact f
 have a: ∀c xs,H c=p5 (.tup xs)->c≠x:=λc xs r z=>by subst z;rw[r] at f;exact f
 by_cases l:b=x
 ·grind[aA]
 ·rw[az l] at q
  by_cases m:b=e
  ·have i:H b=p5 (.own x):=by
    nofun
   rw[q] at i;cases i;obtain⟨v,hv⟩:=g;exact⟨v,by nofun⟩
  ·refine(ok b u q).stay (λc v j r=>k c v ?_ r) (λc r=>by rw[az (d c b r)];exact r) λc xs r=>by rw[az (a c xs r)];exact r
   rcases j with rfl|j
   ·omega
   ·grind
end
structure Un(fs ex:List Addr)(H H':Hp)(h h':Heap):Prop where
 keep: ∀b o,h.get? b=p5 o->H b=Sr->b∉fs->b∉ex->h'.get? b=p5 o
 slot: ∀b o,h.get? b=p5 o->H b=Sr->b∈fs->b∉ex-> ∃sl,h'.get? b=p5 {o with slots:=sl}
 free: ∀b o,h.get? b=p5 o->H b=Sr->b∉ex->H' b=Sr
 there: ∀b o,h.get? b=p5 o->b∉ex-> ∃o',h'.get? b=p5 o'
 tups: ∀b xs,H b=p5 (.tup xs)->H' b=p5 (.tup xs)
 frzs: ∀b o u,H b=p5 (.frz o u)->H' b=p5 (.frz o u)
 tbls: ∀b ps,H b=p5 (.tbl ps)-> ∃more,H' b=p5 (.tbl (ps++more))
section
variable {h h1 h':Heap}
theorem Un.any(u:Un fs ex H H1 h h1)(q:h.get? b=p5 ob)(n:H b=Sr)(a:b∉ex): ∃d,h1.get? b=p5 {ob with slots:=d}:=by
 by_cases c:b∈fs
 ·exact u.slot b ob q n c a
 ·exact⟨ob.slots,u.keep b ob q n c a⟩
theorem Un.trans(a:Un fs ex H H1 h h1)(b:Un fs ex H1 H2 h1 h2):Un fs ex H H2 h h2 where
 keep:=λc ob q n f d=>b.keep c ob (a.keep c ob q n f d) (a.free c ob q n d) f d
 slot:=λc ob q n f d=>by
  obtain⟨m,e⟩:=a.slot c ob q n f d;obtain⟨g,i⟩:=b.slot c _ e (a.free c ob q n d) f d;exact⟨g,i⟩
 free:=λc ob q n d=>by
  obtain⟨o',e⟩:=a.there c ob q d;exact b.free c o' e (a.free c ob q n d) d
 there:=λc ob q d=>by
  obtain⟨o',e⟩:=a.there c ob q d;exact b.there c o' e d
 tups:=λc xs q=>b.tups c xs (a.tups c xs q)
 frzs:=λc ob xs q=>b.frzs c ob xs (a.frzs c ob xs q)
 tbls:=λc l q=>by
  obtain⟨k,e⟩:=a.tbls c l q;obtain⟨j,i⟩:=b.tbls c _ e;exact⟨k++j,by nofun⟩
theorem Un.kept(k: ∀b u,h.get? b=p5 u->h'.get? b=p5 u):Un fs ex H H h h':=
 ⟨λb ob q _ _ _=>k b ob q,λb ob q _ _ _=>⟨ob.slots,k b ob q⟩,λ_ _ _ n _=>n,λb ob q _=>⟨ob,k b ob q⟩,λ_ _ q=>q,λ_ _ _ q=>q,λ_ a q=>⟨#[],by rw[q];rfl⟩⟩
theorem Un.refl:Un fs ex H H h h:=Un.kept λ_ _ q=>q
theorem Un.laid(k: ∀b u,h.get? b=p5 u->h'.get? b=p5 u)(d:h.objs.size<=a)(c:H a=Sr):Un fs ex H (aW H a o) h h' where
 keep:=λb u q _ _ _=>k b u q
 slot:=λb u q _ _ _=>⟨u.slots,k b u q⟩
 free:=λb u q n _=>by rw[az (S7 (SQ (SH q) d))];exact n
 there:=λb u q _=>⟨u,k b u q⟩
 tups:=λb xs q=>by rw[az (bF q c)];exact q
 frzs:=λb u xs q=>by rw[az (bF q c)];exact q
 tbls:=λb e q=>⟨#[],by rw[az (bF q c),q];rfl⟩
theorem Un.write(f:MP (H x))(l:e=x\/H e=p5 (.own x))(k: ∀b u,b≠e->h.get? b=p5 u->h'.get? b=p5 u)(i: ∃u,h'.get? e=p5 u):Un fs ex H (aW H x o) h h':=by
 have g: ∀b,H b=Sr->b≠x:=λb n z=>by subst z;rw[n] at f;exact f
 have d: ∀b,H b=Sr->b≠e:=λb n z=>by
  nofun
 have c: ∀b u,H b=p5 u-> ¬MP (p5 u)->b≠x:=λb u q j z=>by nofun
 refine⟨λb u q n _ _=>k b u (d b n) q,λb u q n _ _=>⟨u.slots,k b u (d b n) q⟩,λb u q n _=>by rw[az (g b n)];exact n,λb u q _=>?_,
  λb xs q=>by rw[az (c b _ q λz=>z)];exact q,λb u xs q=>by rw[az (c b _ q λz=>z)];exact q,λb m q=>⟨#[],by rw[az (c b _ q λz=>z),q];rfl⟩⟩
 by_cases a:b=e
 ·nofun
 ·exact⟨u,k b u a q⟩
end
def trk(h:Heap)(H:Hp):List Addr:=(Su h.objs.size).filter λa=>(H a).isSome
def uV(h:Heap)(H:Hp):Heap:=W.hideAll h (trk h H)
theorem Ce(h:Heap)(H:Hp):(uV h H).objs.size=h.objs.size:=W.hideAll_size _ _
theorem F7 {h:Heap}(e:h.get? b=p5 o)(n:H b=Sr):(uV h H).get? b=p5 o:=
 W.hideAll_get _ e λa=>by
  have q:(H b).isSome=true:=(Tg.mp a).2;nofun
theorem Lk {h:Heap}(e:(uV h H).get? b=p5 o):h.get? b=p5 o/\H b=none:=by
 have a:h.get? b=p5 o:=W.of_hideAll (trk h H) e;refine⟨a,?_⟩;cases q:H b with
 |none=>rfl
 |some x=>
  have c:b∈trk h H:=Tg.mpr ⟨SV.mpr (SH a),by simp[q]⟩;have z:(uV h H).get? b=none:=W.hideAll_none (trk h H) c;nofun
structure Mod(K:SA)(mg:Str->Option Sw)(base:Heap):Prop where
 kin:K.In base
 glob:base.Ns UC mg
 blt: ∃mb,base.Ns jay mb/\ ∀x:Str,x≠"__name__"->mb x=T3 x
 nolimit:base.NoLimit
structure Cx where
 prog:S9
 w:Tu
 K:SA
 mg:Str->Option Sw
 base:Heap
 A:Tr
 N:List Str
 s₀:Sx
 H₀:Hp
 env:Env
 outer:List Env
 stack:List Env
 ex:List Addr
 fn:Str->Bool
 calm:Bool
 pn:List (Addr×Obj)
 xe:Sw->Sx->Prop
def frs(l:List Env):List Addr:=l.filterMap (·.frame)
abbrev Cx.fs(X:Cx):List Addr:=frs X.outer
def lW(a:Vj)(x:Str):Prop:=a.names.lookup x=p5 .local\/a.names.lookup x=p5 .cell\/a.names.lookup x=p5 .free
def CO(a:Vj)(x:Str):Prop:=a.names.lookup x=p5 .local\/a.names.lookup x=p5 .cell
def QW(a:Env)(h:Heap)(m:Str->Option Sw)(x:Str)(u:Sw):Prop:=
 (a.kindOf x=p5 .local/\m x=p5 u)\/((a.kindOf x=p5 .cell\/a.kindOf x=p5 .free)/\ ∃c,a.cells.lookup x=p5 c/\h.IsCell c (p5 u))
structure Cx.Ok(X:Cx):Prop where
 mod:Mod X.K X.mg X.base
 kind:X.env.scope.kind=.function
 glob:X.env.globals=UC
 blt:X.env.builtins=jay
 above:X.s₀.heap.objs.size<=X.env.locals
 inj: ∀x y c,X.env.cells.lookup x=p5 c->X.env.cells.lookup y=p5 c->x=y
 has: ∀x,(X.env.kindOf x=p5 .cell\/X.env.kindOf x=p5 .free)-> ∃c,X.env.cells.lookup x=p5 c
 cab: ∀x c,X.fn x=S1->X.env.cells.lookup x=p5 c->X.s₀.heap.objs.size<=c
 hd:X.calm=S1->X.A.handled=Sr
 frames:X.A.frames=p5 X.stack
 stk:X.stack=X.outer\/(X.stack=X.env::X.outer/\X.env.frame=p5 X.env.locals)
 exf: ∀b∈X.ex,b≠X.env.locals/\ ∀x c,X.env.cells.lookup x=p5 c->c≠b
 bs: ∀b o,X.base.get? b=p5 o->X.s₀.heap.get? b=p5 o/\X.H₀ b=Sr
 bsz:X.base.objs.size<=X.s₀.heap.objs.size
 noex: ∀b o,X.base.get? b=p5 o->b∉X.ex
 exfs: ∀b∈X.ex,b∉X.fs
 funs:X.s₀.heap.FunFrames X.base X.outer
 frf: ∀b∈X.fs,X.H₀ b=Sr
structure Inv(X:Cx)(aa:List (Addr×Obj))(σ:List (Option V))(H:Hp)(s:Sx):Prop where
 ok:X.Ok
 os:s.os=X.s₀.os
 bare:XH s.gens
 base:Un X.fs X.ex X.H₀ H X.s₀.heap s.heap
 loc: ∃m,s.heap.Ns X.env.locals m/\ ∀(i:Nat) (x:Str) (v:V),X.N[i]? =p5 x->σ[i]? =p5 (p5 v)->lW X.env.scope x-> ∃u,b6 v u/\QW X.env s.heap m x u
 cell: ∀x c,X.env.cells.lookup x=p5 c-> ∃v,s.heap.IsCell c v
 free:H X.env.locals=Sr
 freeC: ∀x c,X.env.cells.lookup x=p5 c->H c=Sr
 pin: ∀p∈X.pn++aa,s.heap.get? p.1=p5 p.2/\H p.1=Sr/\p.1≠X.env.locals/\p.1∉X.fs/\ ∀v,p.2.data≠ .cell v
 hok:HOk X.prog X.w H s.heap
 len:σ.length=X.N.length
section
variable {X:Cx}{σ:List (Option V)}{H:Hp}{s:Sx}{h':Heap}
theorem Cx.Ok.nofr(ok:X.Ok){b:Addr}(e:X.base.get? b=p5 o):b∉X.fs:=λa=>by
 have:=(ok.funs.mem a).1;lia
theorem Inv.bs(I:Inv X aa σ H s): ∀b o,X.base.get? b=p5 o->s.heap.get? b=p5 o/\H b=none:=λb o e=>
 ⟨I.base.keep b o (I.ok.bs b o e).1 (I.ok.bs b o e).2 (I.ok.nofr e) (I.ok.noex b o e),I.base.free b o (I.ok.bs b o e).1 (I.ok.bs b o e).2 (I.ok.noex b o e)⟩
theorem Inv.bk(I:Inv X aa σ H s): ∀b o,X.base.get? b=p5 o->s.heap.get? b=p5 o:=λb o e=>(I.bs b o e).1
theorem Inv.mod(I:Inv X aa σ H s):Mod X.K X.mg X.base:=I.ok.mod
theorem Inv.kIn(I:Inv X aa σ H s):X.K.In s.heap:=I.ok.mod.kin.keeps I.bk
theorem Inv.fr(I:Inv X aa σ H s): ∃m,Fr X.base X.env.locals s.heap m:=
 let⟨m,hn,_⟩:=I.loc
 ⟨m,hn,I.bk,Tz I.ok.bsz I.ok.above⟩
theorem Inv.lt(I:Inv X aa σ H s):X.env.locals<s.heap.objs.size:=let⟨_,hn,_⟩:=I.loc;hn.lt
theorem Inv.sz(I:Inv X aa σ H s):X.s₀.heap.objs.size<=s.heap.objs.size:=Tz I.ok.above (Va I.lt)
theorem Inv.nofs(I:Inv X aa σ H s){a:Addr}(h:s.heap.objs.size<=a):a∉X.fs:=λc=>by
 obtain⟨_,o,b,_⟩:=I.ok.funs.mem c;exact absurd (SQ (SH b) (Tz I.sz h)) (TH _)
theorem Inv.cne(I:Inv X aa σ H s): ∀x c,X.env.cells.lookup x=p5 c->c≠X.env.locals:=λx c e z=>by
 obtain⟨v,o,f,d⟩:=I.cell x c e;obtain⟨m,⟨o',es,ep,a,b,_⟩,_⟩:=I.loc;nofun
theorem Inv.funs(I:Inv X aa σ H s):s.heap.FunFrames X.base X.outer:=by
 have d: ∀(l:List Env),(∀b∈frs l,b∈X.fs)->X.s₀.heap.FunFrames X.base l->s.heap.FunFrames X.base l:=by
  intro l
  induction l with
  |nil=>intro _ _;trivial
  |cons n r i=>
   intro f m;obtain⟨q,⟨L,o,g,h,p,j⟩,k⟩:=m;have c:L∈X.fs:=f L (by grind[frs]);obtain⟨t,e⟩:=I.base.slot L o p (I.ok.frf L c) c λz=>I.ok.exfs L z c
   exact⟨q,⟨L,_,g,h,e,j⟩,i (λb a=>f b (by unfold frs;rw[X7,g];exact SI _ a)) k⟩
 exact d X.outer (λ_ a=>a) I.ok.funs
theorem Inv.stack(I:Inv X aa σ H s):s.heap.FunFrames X.base X.stack:=by
 rcases I.ok.stk with e|⟨e,b⟩
 ·rw[e];exact I.funs
 ·rw[e];obtain⟨m,a,_⟩:=I.loc;refine .cons (by rw[I.ok.kind];decide) b a ?_ I.funs;exact Heap.get?_none_of_le (Tz I.ok.bsz I.ok.above)
theorem Inv.stkSub(I:Inv X aa σ H s): ∀b∈frs X.stack,b∈X.env.locals::X.fs:=λb a=>by
 rcases I.ok.stk with e|⟨e,c⟩
 ·nofun
 grind[frs]
theorem Inv.stkFree(I:Inv X aa σ H s): ∀b∈frs X.stack,H b=none:=λb a=>by
 rcases S6.mp (I.stkSub b a) with e|a
 ·rw[e];exact I.free
 ·obtain⟨_,o,c,_⟩:=I.ok.funs.mem a;exact I.base.free b o c (I.ok.frf b a) λz=>I.ok.exfs b z a
theorem Inv.step {g':Array jcI}{t':Nat}{d':Drawn}{ch:List Addr}(I:Inv X S σ H s)
 (h: ∀b∈ch,(b∈X.ex\/X.s₀.heap.objs.size<=b)/\b≠X.env.locals/\(∀x c,X.env.cells.lookup x=p5 c->c≠b)/\ ∀p∈X.pn++S,p.1≠b)
 (j: ∀b o,b≠X.env.locals->b∉X.fs->b∉ch->s.heap.get? b=p5 o->H b=Sr->h'.get? b=p5 o)
 (A: ∀b o,b≠X.env.locals->b∈X.fs->b∉ch->s.heap.get? b=p5 o->H b=Sr-> ∃O,h'.get? b=p5 {o with slots:=O}) (f: ∀b o,b∉ch->s.heap.get? b=p5 o->H b=Sr->H' b=Sr)
 (C: ∀b o,b∉ch->s.heap.get? b=p5 o-> ∃o',h'.get? b=p5 o')
 (F: ∀b xs,H b=p5 (.tup xs)->H' b=p5 (.tup xs)) (J: ∀b o u,H b=p5 (.frz o u)->H' b=p5 (.frz o u)) (E: ∀b M,H b=p5 (.tbl M)-> ∃G,H' b=p5 (.tbl (M++G)))
 (ns: ∀m,s.heap.Ns X.env.locals m->h'.Ns X.env.locals m) (N:HOk X.prog X.w H' h') (Y:XH g'):
 Inv X S σ H' {s with heap:=h',gens:=g',drawn:=d',toks:=t'}:=by
 have K: ∀b o,X.s₀.heap.get? b=p5 o->b≠X.env.locals:=λb o e=>S7 (SQ (SH e) I.ok.above)
 have y: ∀b o,X.s₀.heap.get? b=p5 o->b∉X.ex->b∉ch:=λb o e a B=>by
  rcases(h b B).1 with z|z
  ·exact a z
  ·exact absurd (SQ (SH e) z) (TH _)
 have d8: ∀x c,X.env.cells.lookup x=p5 c-> ∀v,s.heap.IsCell c v->h'.IsCell c v:=λx c e v R=>by
  obtain⟨o,D,P⟩:=R;have g:c∉ch:=λz=>(h c z).2.2.1 x c e rfl
  by_cases W:c∈X.fs
  ·obtain⟨O,q⟩:=A c o (I.cne x c e) W g D (I.freeC x c e);exact⟨_,q,P⟩
  ·exact⟨o,j c o (I.cne x c e) W g D (I.freeC x c e),P⟩
 refine⟨I.ok,I.os,Y,⟨λb o e n B a=>?_,λb o e n B a=>?_,λb o e n a=>?_,λb o e a=>?_,λb xs e=>F b xs (I.base.tups b xs e),λb o xs e=>J b o xs (I.base.frzs b o xs e),λb M e=>?_⟩,?_,λx c e=>?_,?_,λx c e=>?_,λp U=>?_,N,I.len⟩
 ·exact j b o (K b o e) B (y b o e a) (I.base.keep b o e n B a) (I.base.free b o e n a)
 ·obtain⟨O,t⟩:=I.base.slot b o e n B a;obtain⟨Q,L⟩:=A b _ (K b o e) B (y b o e a) t (I.base.free b o e n a);exact⟨Q,L⟩
 ·obtain⟨o',t⟩:=I.base.there b o e a;exact f b o' (y b o e a) t (I.base.free b o e n a)
 ·obtain⟨o',t⟩:=I.base.there b o e a;exact C b o' (y b o e a) t
 ·obtain⟨m1,t⟩:=I.base.tbls b M e;obtain⟨m2,L⟩:=E b _ t;exact⟨m1++m2,by nofun⟩
 ·obtain⟨m,hn,Z⟩:=I.loc;refine⟨m,ns m hn,λi x v t L e3=>?_⟩;obtain⟨u,r,l⟩:=Z i x v t L e3;refine⟨u,r,?_⟩;rcases l with l|⟨k,c,e,z⟩
  ·exact .inl l
  ·exact .inr ⟨k,c,e,d8 x c e _ z⟩
 ·obtain⟨v,z⟩:=I.cell x c e;exact⟨v,d8 x c e v z⟩
 ·obtain⟨m,⟨o,_,_,D,_⟩,_⟩:=I.loc;exact f _ o (λz=>(h _ z).2.1 rfl) D I.free
 ·obtain⟨v,o,D,P⟩:=I.cell x c e;exact f c o (λz=>(h c z).2.2.1 x c e rfl) D (I.freeC x c e)
 ·obtain⟨e,n,V,T,d⟩:=I.pin p U;have g:p.1∉ch:=λz=>(h p.1 z).2.2.2 p U rfl
  exact⟨j p.1 p.2 V T g e n,f p.1 p.2 g e n,V,T,d⟩
theorem Inv.un {t':Nat}(I:Inv X aa σ H s)(u:Un X.fs [] H H' s.heap h')(c:HOk X.prog X.w H' h'):Inv X aa σ H' {s with heap:=h',toks:=t'}:=by
 obtain⟨m,⟨o,es,ep,h,r⟩,_⟩:=id I.loc;obtain⟨l,i⟩:=u.any h I.free (by simp)
 exact I.step (g':=s.gens) (d':=s.drawn) (ch:=[]) (λ_ z=>nomatch z) (λb o _ d _ e n=>u.keep b o e n d (by omega)) (λb o _ d _ e n=>u.slot b o e n d (by omega)) (λb o _ e n=>u.free b o e n (by omega)) (λb o _ e=>u.there b o e (by omega)) u.tups u.frzs u.tbls (λp k=>by
  obtain⟨o',f,g,a,j⟩:=k
  rw[h] at a;cases a;exact⟨_,f,g,i,j⟩) c I.bare
theorem Inv.call {g':Array jcI}{t':Nat}{d':Drawn}{ch:List Addr}(I:Inv X k σ H s)(u:Un (frs X.stack) ch H H' s.heap h')(g:HOk X.prog X.w H' h')(t:XH g')
 (f: ∀b∈ch,(b∈X.ex\/X.s₀.heap.objs.size<=b)/\b≠X.env.locals/\(∀x c,X.env.cells.lookup x=p5 c->c≠b)/\ ∀p∈X.pn++k,p.1≠b):
 Inv X k σ H' {s with heap:=h',gens:=g',drawn:=d',toks:=t'}:=by
 obtain⟨m,⟨o,es,ep,l,r⟩,_⟩:=id I.loc;obtain⟨A,h⟩:=u.any l I.free λz=>(f _ z).2.1 rfl
 exact I.step (ch:=ch) f (λb o h q a e n=>u.keep b o e n (λz=>(S6.mp (I.stkSub b z)).elim h q) a) (λb o _ _ a e n=>u.any e n a) (λb o a e n=>u.free b o e n a) (λb o a e=>u.there b o e a) u.tups u.frzs u.tbls (λB y=>by
  obtain⟨o',i,j,d,v⟩:=y
  rw[l] at d;cases d;exact⟨_,i,j,h,v⟩) g t
theorem Inv.turned {t':Nat}{it:Addr}(I:Inv X d σ H s)(k: ∀b o,b≠it->s.heap.get? b=p5 o->h'.get? b=p5 o)(y:H it=Sr)(f:it≠X.env.locals)
 (i:it∈X.ex\/X.s₀.heap.objs.size<=it) (g: ∀x c,X.env.cells.lookup x=p5 c->c≠it) (j: ∀p∈X.pn++d,p.1≠it):Inv X d σ H {s with heap:=h',toks:=t'}:=by
 have t: ∀b u,H b=p5 u->b≠it:=λb u e z=>by nofun
 refine I.step (g':=s.gens) (d':=s.drawn) (ch:=[it]) (λb h=>?_) (λb o _ _ a e _=>k b o (λz=>a (by simp[z])) e) (λb o _ _ a e _=>⟨o.slots,k b o (λz=>a (by simp[z])) e⟩) (λ_ _ _ _ n=>n)
  (λb o a e=>⟨o,k b o (λz=>a (by simp[z])) e⟩) (λ_ _ e=>e) (λ_ _ _ e=>e) (λb A e=>⟨#[],by rw[e];rfl⟩) (λm l=>?_) (λb u e=>?_) I.bare
 ·have e:b=it:=by simpa using h
  subst e;exact⟨i,f,g,j⟩
 ·obtain⟨o,es,ep,w,r⟩:=l;exact⟨o,es,ep,k _ o (To f) w,r⟩
 ·refine(I.hok b u e).stay (λc v a q=>k c v ?_ q) (λ_ q=>q) λ_ _ q=>q
  grind
theorem Inv.tok(I:Inv X aa σ H s)(t:Nat):Inv X aa σ H {s with toks:=t}:=I.un (h':=s.heap) (t':=t) Un.refl I.hok
theorem Inv.kept {t':Nat}(I:Inv X aa σ H s)(k: ∀b u,s.heap.get? b=p5 u->h'.get? b=p5 u):Inv X aa σ H {s with heap:=h',toks:=t'}:=I.un (Un.kept k) (I.hok.kept k)
theorem Inv.laid {a:Addr}{o:HO}{t':Nat}(I:Inv X aa σ H s)(k: ∀b u,s.heap.get? b=p5 u->h'.get? b=p5 u)(c:s.heap.objs.size<=a)(d:ci X.prog X.w (aW H a o) h' a o):
 Inv X aa σ (aW H a o) {s with heap:=h',toks:=t'}:=I.un (Un.laid k c (I.hok.fresh c)) (I.hok.laid k c d)
theorem Inv.write {x e:Addr}{t':Nat}(I:Inv X aa σ H s)(d:MP (H x))(f:e=x\/H e=p5 (.own x))(k: ∀b u,b≠e->s.heap.get? b=p5 u->h'.get? b=p5 u)(a: ∃u,h'.get? e=p5 u)
 (c:ci X.prog X.w (aW H x o) h' x o):Inv X aa σ (aW H x o) {s with heap:=h',toks:=t'}:=I.un (Un.write d f k a) (I.hok.write d f k a c)
theorem Inv.pins_of(I:Inv X aa σ H s)(h: ∀p∈a,s.heap.get? p.1=p5 p.2/\H p.1=Sr/\p.1≠X.env.locals/\p.1∉X.fs/\ ∀v,p.2.data≠ .cell v):Inv X a σ H s:=
 ⟨I.ok,I.os,I.bare,I.base,I.loc,I.cell,I.free,I.freeC,λp b=>(Tf.mp b).elim (λz=>I.pin p (Ub _ z)) (h p),I.hok,I.len⟩
theorem wt {N:List Str}(c:N.Nodup){i j:Nat}(a:N[i]? =p5 x)(b:N[j]? =p5 x):i=j:=by
 grind[jbx]
theorem mH {M:Model}{A:Tr}{E:Sw->Sx->Prop}{i:Nat}{x:Str}{v:V}{u:Sw}{Q:Unit->Sx->Prop}(I:Inv X aa σ H s)(hN:X.N.Nodup)(hi:X.N[i]? =p5 x)(hx:CO X.env.scope x)(r:b6 v u)
 (h: ∀s',Inv X aa (σ.set i (p5 v)) H s'->(∃a,Tw a s.heap s'.heap/\(a=X.env.locals\/X.env.cells.lookup x=p5 a))->Q Unit.unit s') (hf:X.fn x=S1\/X.env.scope.names.lookup x=p5 .local:=by first|exact .inl rfl|exact .inr rfl|assumption):SL M A (storeName X.env x u) Q E s:=by
 obtain⟨m,hn,hl⟩:=id I.loc;have hcls:(X.env.scope.kind== .class||(X.env.scope.kind== .module&&X.env.locals !=X.env.globals))=false:=by rw[I.ok.kind];rfl
 have hiσ:i<σ.length:=by rw[I.len];exact(SK.mp hi).1
 have cne:=I.cne;have tracked: ∀ {a:Addr} {h':Heap},(∃o,s.heap.get? a=p5 o/\H a=Sr)->Tw a s.heap h'->HOk X.prog X.w H h':=λ{a h'} ha hs b ob e=>by
  obtain⟨_,_,hfree⟩:=ha;refine(I.hok b ob e).stay (λc w' hc q=>(hs.2 c ?_).trans q) (λ_ q=>q) λ_ _ q=>q
  lia
 rcases hx with hk|hk
 ·refine wpAny_storeName_local hk hn (λh' hn' hs=>?_) hcls;obtain⟨oL,_,_,hoL,_⟩:=id hn;refine h _ ⟨I.ok,I.os,I.bare,⟨λb o e n hb hx=>?_,λb o e n hb hx=>?_,I.base.free,λb o e hx=>?_,I.base.tups,I.base.frzs,I.base.tbls⟩,⟨_,hn',λj y v' e1 e2 e3=>?_⟩,λy c e=>?_,I.free,I.freeC,λp hp=>?_,tracked ⟨oL,hoL,I.free⟩ hs,by simpa using I.len⟩ ⟨_,hs,.inl rfl⟩
  ·exact(hs.2 b (S7 (SQ (SH e) I.ok.above))).trans (I.base.keep b o e n hb hx)
  ·obtain⟨sl,e1⟩:=I.base.slot b o e n hb hx;exact⟨sl,(hs.2 b (S7 (SQ (SH e) I.ok.above))).trans e1⟩
  ·obtain⟨o',e1⟩:=I.base.there b o e hx;exact⟨o',(hs.2 b (S7 (SQ (SH e) I.ok.above))).trans e1⟩
  ·by_cases hj:j=i
   ·subst hj;rw[hi] at e1;cases e1;rw[Ta hiσ] at e2;cases e2;exact⟨u,r,.inl ⟨hk,by simp⟩⟩
   ·rw[SS (To hj)] at e2;obtain⟨u',r',q⟩:=hl j y v' e1 e2 e3;refine⟨u',r',?_⟩;rcases q with⟨k,e⟩|⟨k,c,e,z⟩
    ·refine .inl ⟨k,?_⟩;have:y≠x:=λe=>hj (wt hN e1 (e▸hi))
     nofun
    ·exact .inr ⟨k,c,e,z.sameBut hs (cne y c e)⟩
  ·obtain⟨w',z⟩:=I.cell y c e;exact⟨w',z.sameBut hs (cne y c e)⟩
  ·obtain⟨e,n,ne,nf,d⟩:=I.pin p hp;exact⟨(hs.2 p.1 ne).trans e,n,ne,nf,d⟩
 ·have hfn:X.fn x=true:=by
   nofun
  obtain⟨c,hc⟩:=I.ok.has x (.inl hk);obtain⟨w',z⟩:=I.cell x c hc;refine wpAny_storeName_cell I.ok.kind hk hc z (λh' hc' hs=>?_);obtain⟨oc,hoc,hocd⟩:=id z;refine h {s with heap:=h'} ⟨I.ok,I.os,I.bare,⟨λb o e n hb hx=>?_,λb o e n hb hx=>?_,I.base.free,λb o e hx=>?_,I.base.tups,I.base.frzs,I.base.tbls⟩,⟨m,hn.sameBut hs (To (cne x c hc)),λj y v' e1 e2 e3=>?_⟩,λy c' e=>?_,I.free,I.freeC,λp hp=>?_,tracked ⟨oc,hoc,I.freeC x c hc⟩ hs,by simpa using I.len⟩ ⟨c,hs,.inr hc⟩
  ·exact(hs.2 b (S7 (SQ (SH e) (I.ok.cab x c hfn hc)))).trans (I.base.keep b o e n hb hx)
  ·obtain⟨sl,e1⟩:=I.base.slot b o e n hb hx;exact⟨sl,(hs.2 b (S7 (SQ (SH e) (I.ok.cab x c hfn hc)))).trans e1⟩
  ·obtain⟨o',e1⟩:=I.base.there b o e hx;exact⟨o',(hs.2 b (S7 (SQ (SH e) (I.ok.cab x c hfn hc)))).trans e1⟩
  ·by_cases hj:j=i
   ·subst hj;rw[hi] at e1;cases e1;rw[Ta hiσ] at e2;cases e2;exact⟨u,r,.inr ⟨.inl hk,c,hc,hc'⟩⟩
   ·rw[SS (To hj)] at e2;obtain⟨u',r',q⟩:=hl j y v' e1 e2 e3;refine⟨u',r',?_⟩;rcases q with q|⟨k,c',e,z'⟩
    ·exact .inl q
    ·refine .inr ⟨k,c',e,z'.sameBut hs ?_⟩;rintro rfl;exact hj (wt hN e1 (I.ok.inj _ _ _ e hc▸hi))
  ·by_cases hcc:c'=c
   ·grind
   ·obtain⟨w2,z2⟩:=I.cell y c' e;exact⟨w2,z2.sameBut hs hcc⟩
  ·obtain⟨e,n,ne,nf,d⟩:=I.pin p hp;refine⟨(hs.2 p.1 ?_).trans e,n,ne,nf,d⟩;intro q;nofun
theorem lj(I:Inv X aa σ H s)(d:X.N.Nodup)(b:X.N[i]? =p5 x)(a:CO X.env.scope x)(r:b6 v u)
 (h: ∀s',Inv X aa (σ.set i (p5 v)) H s'->Q Unit.unit s') (c:X.fn x=S1\/X.env.scope.names.lookup x=p5 .local:=by first|exact .inl rfl|exact .inr rfl|assumption):SL M A (storeName X.env x u) Q E s:=
 mH I d b a r (λs' e _=>h s' e) c
theorem Inv.call' {s':Sx}{ch:List Addr}(I:Inv X f σ H s)(h:s'.os=s.os)(u:Un (frs X.stack) ch H H' s.heap s'.heap)(a:HOk X.prog X.w H' s'.heap)(g:XH s'.gens)
 (d: ∀b∈ch,(b∈X.ex\/X.s₀.heap.objs.size<=b)/\b≠X.env.locals/\(∀x c,X.env.cells.lookup x=p5 c->c≠b)/\ ∀p∈X.pn++f,p.1≠b):Inv X f σ H' s':=by
 obtain⟨h',g',d',t',o'⟩:=s';have e:o'=s.os:=h;subst e;exact I.call (g':=g') (t':=t') (d':=d') u a g d
end
abbrev XK:=Sw->Option Addr->Hp->Prop
abbrev St:=List (Option V)
abbrev VK:=V->Hp->Prop
abbrev TE:=St->Hp->VK->Prop
abbrev TT:=St->Hp->(Bool->Hp->Prop)->Prop
abbrev TA:=St->Hp->(List V->Hp->Prop)->Prop
structure ua where
 nx:St->Hp->Prop
 rt:VK
 bk:St->Hp->Prop:=λ_ _=>False
 ct:St->Hp->Prop:=λ_ _=>False
abbrev TS:=ua->St->Hp->Prop
def EP(X:Cx)(b:List (Addr×Obj))(σ:St)(Q:VK)(u:Sw)(s':Sx):Prop:= ∃v a,Inv X b σ a s'/\b6 v u/\Q v a
def TP(X:Cx)(c:List (Addr×Obj))(σ:St)(Q:Bool->Hp->Prop)(b:Bool)(s':Sx):Prop:= ∃a,Inv X c σ a s'/\Q b a
def AP(X:Cx)(b:List (Addr×Obj))(σ:St)(Q:List V->Hp->Prop)(us:List Sw)(s':Sx):Prop:= ∃vs a,Inv X b σ a s'/\cc vs us/\Q vs a
def SP(X:Cx)(c:List (Addr×Obj))(D:ua)(f:Flow)(s':Sx):Prop:=
 match f with
 | .next=> ∃a b,Inv X c a b s'/\D.nx a b
 | .brk=> ∃a b,Inv X c a b s'/\D.bk a b
 | .cont=> ∃a b,Inv X c a b s'/\D.ct a b
 | .ret u=> ∃v a b,Inv X c a b s'/\b6 v u/\D.rt v b
def PE(X:Cx)(e:Expr)(t:TE):Prop:=
 ∀(a:List (Addr×Obj)) (s:Sx) (σ:St) (H:Hp) (Q:VK),Inv X a σ H s->t σ H Q->SL (model X.prog X.w) X.A (eval e X.env) (EP X a σ Q) X.xe s
def PT(X:Cx)(e:Expr)(t:TT):Prop:=
 ∀(a:List (Addr×Obj)) (s:Sx) (σ:St) (H:Hp) (Q:Bool->Hp->Prop),Inv X a σ H s->t σ H Q->SL (model X.prog X.w) X.A (isTrue e X.env (eval e X.env)) (TP X a σ Q) X.xe s
def PW(X:Cx)(e:Expr)(t:TT):Prop:=
 ∀(a:Sem Sw) (b:List (Addr×Obj)) (s:Sx) (σ:St) (H:Hp) (Q:Bool->Hp->Prop),Inv X b σ H s->t σ H Q->SL (model X.prog X.w) X.A (isTrue e X.env a) (TP X b σ Q) X.xe s
theorem PW.pt(h:PW X e t):PT X e t:=h _
def PA(X:Cx)(es:List Expr)(t:TA):Prop:=
 ∀(a:Pos) (b:List (Addr×Obj)) (s:Sx) (σ:St) (H:Hp) (Q:List V->Hp->Prop),Inv X b σ H s->t σ H Q->SL (model X.prog X.w) X.A (spliced (Ul a (SF es X.env))) (AP X b σ Q) X.xe s
def PS(X:Cx)(st:Stmt)(t:TS):Prop:=
 ∀(a:List (Addr×Obj)) (s:Sx) (σ:St) (H:Hp) (D:ua),Inv X a σ H s->t D σ H->SL (model X.prog X.w) X.A (exec st X.env) (SP X a D) X.xe s
def PSs(X:Cx)(st:List Stmt)(t:TS):Prop:=
 ∀(a:List (Addr×Obj)) (s:Sx) (σ:St) (H:Hp) (D:ua),Inv X a σ H s->t D σ H->SL (model X.prog X.w) X.A (execs st X.env) (SP X a D) X.xe s
theorem bB {α:Type}{t:Sem α}{Q b:α->Sx->Prop}{M:Model}{A:Tr}{E:Sw->Sx->Prop}{s:Sx}(h:SL M A t Q E s)(c: ∀a s,Q a s->b a s):SL M A t b E s:=Tv h c λ_ _ x=>x
section
variable {X:Cx}
def PR(i:Nat):TE:=λσ H Q=> ∃v,σ[i]? =p5 (p5 v)/\Q v H
def tC(v:V):TE:=λ_ H Q=>Q v H
theorem MS {i:Nat}{x:Str}{pos:Pos}(hN:X.N[i]? =p5 x)(hv:lW X.env.scope x)(hd:(x==("__debug__":Str))=false:=by decide)(hcd:(x==("__classdict__":Str))=false:=by decide):PE X (.Name x pos) (PR i):=by
 intro aa s σ H Q I h;obtain⟨v,e,h⟩:=h;obtain⟨m,hn,hl⟩:=I.loc;obtain⟨u,r,l⟩:=hl i x v hN e hv;have fin:EP X aa σ Q u s:=⟨v,H,I,r,h⟩
 rcases l with⟨hk,hm⟩|⟨hk,c,hc,hcell⟩
 ·exact jcJ (wpAny_loadName_local I.ok.kind hk hn hm fin) hd
 ·rcases hk with hk|hk
  ·exact jcJ (wpAny_loadName_cell I.ok.kind hk hc hcell fin) hd
  ·exact jcJ (wpAny_loadName_free I.ok.kind hk hc hcell fin hcd) hd
theorem NP {i j pos}:PE X (.Constant (.int i) j pos) (tC (.int i)):=λ_ _ _ H _ I h=>wpAny_Constant_int ⟨.int i,H,I.tok _,⟨_,rfl⟩,h⟩
theorem Pp {b j pos}:PE X (.Constant (.bool b) j pos) (tC (.bl b)):=λ_ _ _ H _ I h=>Constant_bool ⟨.bl b,H,I,rfl,h⟩
def Gl(X:Cx)(x:Str):Prop:=X.env.kindOf x=p5 .globalImplicit
theorem Le{H:Hp}(I:Inv X aa σ H s)(b:Gl X x)(c:X.mg x=p5 u)(h:Q u s)
 (a:(x==("__debug__":Str))=false:=by decide):SL (model X.prog X.w) X.A (eval (.Name x pos) X.env) Q E s:=
 Yo I.ok.kind b (Calls.loadGlobal_global (by rw[I.ok.glob];exact I.mod.glob.keeps I.bk) c h) a
theorem iR{H:Hp}{u:Sw}(I:Inv X aa σ H s)(f:Gl X x)(c:X.mg x=Sr)(hv:T3 x=p5 u)(h:Q u s)
 (e:x≠"__name__":=by decide) (a:(x==("__debug__":Str))=false:=by decide):SL (model X.prog X.w) X.A (eval (.Name x pos) X.env) Q E s:=by
 obtain⟨g,d,b⟩:=I.mod.blt;exact Yo I.ok.kind f (Calls.loadGlobal_builtin (by rw[I.ok.glob];exact I.mod.glob.keeps I.bk) c (by rw[I.ok.blt];exact d.keeps I.bk) ((b x e).trans hv) h) a
theorem JR{v:V}(c:Gl X x)(a:X.mg x=Sr)(hv:T3 x=p5 u)(r:b6 v u)(b:x≠"__name__":=by decide)(d:(x==("__debug__":Str))=false:=by decide):PE X (.Name x pos) (tC v):=
 λ_ _ _ H _ I h=>iR I c a hv ⟨v,H,I,r,h⟩ b d
variable {a b:Expr}
def PC(X:Cx)(f:CmpOp)(a b:Expr)(t:TE):Prop:=
 ∀(e:List (Addr×Obj)) (s:Sx) (σ:St) (H:Hp) (Q:VK),Inv X e σ H s->t σ H Q->
  SL (model X.prog X.w) X.A (eval a X.env) (λv d=>SL (model X.prog X.w) X.A (eval b X.env) (λu c=>SL (model X.prog X.w) X.A (U0 f v u) (EP X e σ Q) X.xe c) X.xe d) X.xe s
def tB(t:TE):TT:=λσ H Q=>t σ H λx a=> ∃c,x=.bl c/\Q c a
theorem vx(h:PC X op a b t)(f:UV op b=false:=by first|exact e _ () ()|rfl):PT X (.Compare a [op] [b] pos) (tB t):=by
 intro j s σ H Q I hw;refine ZI (bB (h j s σ H _ I hw) λv n f=>bB f λu p i=>bB i λc o ⟨x,g,k,m,l⟩=>?_) f;obtain⟨d,rfl,q⟩:=l;cases m;exact UD ⟨g,k,q⟩
variable {rest:List Expr}
def Qu(t u:TT):TT:=λσ H Q=>t σ H λc a=>if c=S1 then u σ a Q else Q Pa a
def R7(t u:TT):TT:=λσ H Q=>t σ H λc a=>if c=S1 then Q S1 a else u σ a Q
def Rm(t:TT):TT:=λσ H Q=>t σ H λc a=>Q (!c) a
theorem u6(b:PT X a tA):PW X (.BoolOp .And [a] pos) tA:=by
 intro g d s σ H Q I h;refine isTrue_and (bB (b d s σ H Q I h) λc f e=>?_);cases c with
 |true=>exact isTrue_and_nil e
 |false=>exact e
theorem vn(b:PT X a tA):PW X (.BoolOp .Or [a] pos) tA:=by
 intro g d s σ H Q I h;refine isTrue_or (bB (b d s σ H Q I h) λc f e=>?_);cases c with
 |false=>exact isTrue_or_nil e
 |true=>exact e
theorem vm(j:PT X a tA)(l:PW X (.BoolOp .And (b::rest) pos) tB'):PW X (.BoolOp .And (a::b::rest) pos) (Qu tA tB'):=by
 intro m g s σ H Q I h;refine isTrue_and (bB (j g s σ H _ I h) λc k d=>?_);obtain⟨e,f,i⟩:=d;cases c with
 |true=>exact l m g k σ e Q f i
 |false=>exact⟨e,f,i⟩
theorem vr(j:PT X a tA)(l:PW X (.BoolOp .Or (b::rest) pos) tB'):PW X (.BoolOp .Or (a::b::rest) pos) (R7 tA tB'):=by
 intro m g s σ H Q I h;refine isTrue_or (bB (j g s σ H _ I h) λc k d=>?_);obtain⟨e,f,i⟩:=d;cases c with
 |true=>exact⟨e,f,i⟩
 |false=>exact l m g k σ e Q f i
theorem Mo(d:PT X a tA):PT X (.UnaryOp .Not a pos) (Rm tA):=by
 intro e s σ H Q I h;exact isTrue_not (d e s σ H (λc b=>Q (!c) b) I h)
def OE(d b:TE):TE:=λσ H Q=>d σ H λx a=> ∃c,x=.bl c/\if c=S1 then b σ a Q else Q (.bl Pa) a
def Pd(b:TE):TE:=λσ H Q=>b σ H λx a=> ∃c,x=.bl c/\Q (.bl (!c)) a
theorem MD {op}(h:PE X a t):PE X (.BoolOp op [a] pos) t:=λb s σ H Q I hw=>BoolOp_one (h b s σ H Q I hw)
theorem LY(l:PE X a ta)(k:PE X (.BoolOp .And (b::rest) pos) tb):PE X (.BoolOp .And (a::b::rest) pos) (OE ta tb):=by
 intro g s σ H Q I h;refine BoolOp_and (bB (l g s σ H _ I h) λv j e=>?_);obtain⟨x,f,i,m,d⟩:=e;obtain⟨c,rfl,d⟩:=d;cases m;refine UD ?_
 cases c with
 |true=>exact k g j σ f Q i d
 |false=>exact⟨.bl Pa,f,i,rfl,d⟩
theorem NC(f:PE X a ta):PE X (.UnaryOp .Not a pos) (Pd ta):=by
 intro i s σ H Q I h;refine UnaryOp_ (bB (f i s σ H _ I h) λv k d=>?_);obtain⟨x,e,g,j,b⟩:=d;obtain⟨c,rfl,b⟩:=b;cases j;exact not_of (UD ⟨.bl (!c),e,g,rfl,b⟩)
end
def SqL(K:SA)(H:Hp)(a:Addr)(xs:List V):Prop:=
 Rd H a (.lst xs)\/
  ∃(o:Obj) (b:Array Sw) (n:Nat),K.lookup a=p5 o/\o.cls=.type "list"/\o.dict=Sr/\o.data=.seq b n/\b.size<=SU/\cc xs b.toList
def SqT(K:SA)(H:Hp)(a:Addr)(xs:List V):Prop:=
 Rd H a (.tup xs)\/
  ∃(o:Obj) (b:Array Sw) (n:Nat),K.lookup a=p5 o/\o.cls=.type "tuple"/\o.data=.seq b n/\b.size<=SU/\cc xs b.toList/\o.dict=Sr
def RD:Sw->Option V
 | .none=>p5 .non
 | .bool b=>p5 (.bl b)
 | .int i _=>p5 (.int i)
 | .str x _=>p5 (.str x)
 | .bytes b _=>p5 (.byt b)
 | .float b _=>p5 (.flt b)
 | .ref a=>p5 (.ref a)
 | .type n=>p5 (.ty n)
 |_=>Sr
theorem b6.abs(r:b6 x u):RD u=p5 x:=by
 cases x with
 |non=>cases r;rfl
 |bl _=>cases r;rfl
 |int _=>obtain⟨t,rfl⟩:=r;rfl
 |str _=>obtain⟨t,rfl⟩:=r;rfl
 |byt _=>obtain⟨t,rfl⟩:=r;rfl
 |flt _=>obtain⟨t,rfl⟩:=r;rfl
 |ref _=>cases r;rfl
 |ty _=>cases r;rfl
theorem b6.inj(r:b6 x u)(q:b6 y u):x=y:=XT (r.abs.symm.trans q.abs)
theorem cc.inj: ∀ {xs ys:List V} {us:List Sw},cc xs us->cc ys us->xs=ys
 |_,_,_,.nil,.nil=>rfl
 |_,_,_,.cons r t,.cons a t'=>by rw[r.inj a,cc.inj t t']
section
variable {X:Cx}{s:Sx}{xs:List V}
theorem SqL.of {K:SA}(h:H a=p5 (.lst xs)):SqL K H a xs:=.inl (.inl h)
theorem SqT.of {K:SA}(h:H a=p5 (.tup xs)):SqT K H a xs:=.inl (.inl h)
theorem Inv.list(I:Inv X aa σ H s)(h:SqL X.K H a xs): ∃b:List Sw,cc xs b/\PlainL s.heap a b.toArray/\xs.length<=sizeLine:=by
 rcases h with h|⟨o,b,n,f,d,c,g,hz,r⟩
 ·obtain⟨z,b,n,r,e⟩:=h.ok I.hok;exact⟨b,r,⟨_,n,e,rfl,rfl,rfl⟩,z⟩
 ·refine⟨b.toList,r,⟨o,n,I.kIn a o f,d,c,by omega⟩,?_⟩;have e:=r.length;nofun
theorem Inv.tuple(I:Inv X aa σ H s)(h:SqT X.K H a xs): ∃b:List Sw,cc xs b/\IsTup s.heap a b.toArray/\xs.length<=sizeLine:=by
 rcases h with h|⟨o,b,n,d,c,f,hz,r,_⟩
 ·obtain⟨z,b,r,p,_⟩:=h.ok I.hok;exact⟨b,r,p,z⟩
 ·refine⟨b.toList,r,⟨o,I.kIn a o d,c,n,by omega⟩,?_⟩;have e:=r.length;nofun
theorem Inv.tupleN(I:Inv X aa σ H s)(h:SqT X.K H a xs):(∃o,s.heap.get? a=p5 o/\o.cls=.type "tuple")/\ ∃o,s.heap.get? a=p5 o/\o.dict=none:=by
 rcases h with h|⟨o,b,n,d,i,l,hz,r,g⟩
 ·obtain⟨z,b,r,⟨ob,e,c,_⟩,k,f,j⟩:=h.ok I.hok;exact⟨⟨ob,e,c⟩,k,f,j⟩
 ·exact⟨⟨o,I.kIn a o d,i⟩,o,I.kIn a o d,g⟩
theorem Inv.list_inj(I:Inv X aa σ H s)(h:SqL X.K H a xs)(h':SqL X.K H a ys):xs=ys:=by
 obtain⟨b,r,⟨o,n,e,_,_,d⟩,_⟩:=I.list h;obtain⟨its',f,⟨o',g,c,_,_,d'⟩,_⟩:=I.list h';rw[e] at c;cases c;rw[d] at d';injection d' with i _
 have:b=its':=by lia
 subst this;exact r.inj f
theorem Inv.tuple_inj(I:Inv X aa σ H s)(h:SqT X.K H a xs)(h':SqT X.K H a ys):xs=ys:=by
 obtain⟨b,r,⟨o,e,_,n,d⟩,_⟩:=I.tuple h;obtain⟨its',f,⟨o',c,_,g,d'⟩,_⟩:=I.tuple h';rw[e] at c;cases c;rw[d] at d';injection d' with i _
 have:b=its':=by nofun
 subst this;exact r.inj f
end
abbrev Cx.wish(X:Cx)(E:Sw->Sx->Prop):Cx:={X with xe:=E}
abbrev Cx.nox(X:Cx):Cx:=X.wish λ_ _=>False
theorem Cx.Ok.wish {X:Cx}(ok:X.Ok)(E:Sw->Sx->Prop):(X.wish E).Ok:=
 ⟨ok.mod,ok.kind,ok.glob,ok.blt,ok.above,ok.inj,ok.has,ok.cab,ok.hd,ok.frames,ok.stk,ok.exf,ok.bs,ok.bsz,ok.noex,ok.exfs,ok.funs,ok.frf⟩
theorem Cx.Ok.unwish {X:Cx}(ok:(X.wish E).Ok):X.Ok:=
 ⟨ok.mod,ok.kind,ok.glob,ok.blt,ok.above,ok.inj,ok.has,ok.cab,ok.hd,ok.frames,ok.stk,ok.exf,ok.bs,ok.bsz,ok.noex,ok.exfs,ok.funs,ok.frf⟩
section
variable {X:Cx}{H:Hp}
theorem Inv.wish(I:Inv X aa σ H s)(E:Sw->Sx->Prop):Inv (X.wish E) aa σ H s:=⟨I.ok.wish E,I.os,I.bare,I.base,I.loc,I.cell,I.free,I.freeC,I.pin,I.hok,I.len⟩
theorem Inv.unwish(I:Inv (X.wish E) aa σ H s):Inv X aa σ H s:=⟨I.ok.unwish,I.os,I.bare,I.base,I.loc,I.cell,I.free,I.freeC,I.pin,I.hok,I.len⟩
theorem SP.unwish {D:ua}(h:SP (X.wish E) aa D f s'):SP X aa D f s':=by
 cases f with
 |next=>obtain⟨a,b,I,q⟩:=h;exact⟨a,b,I.unwish,q⟩
 |brk=>obtain⟨a,b,I,q⟩:=h;exact⟨a,b,I.unwish,q⟩
 |cont=>obtain⟨a,b,I,q⟩:=h;exact⟨a,b,I.unwish,q⟩
 |ret u=>obtain⟨v,a,b,I,r,q⟩:=h;exact⟨v,a,b,I.unwish,r,q⟩
theorem PSs.nox {st:List Stmt}(h:PSs X.nox st t):PSs X st t:=λa s σ H D I hw=>
 Tv (h a s σ H D (I.wish _) hw) (λ_ _ q=>q.unwish) λ_ _ z=>False.elim z
end
section
variable {X:Cx}{st:Stmt}{t u:TS}{pos:Pos}
def O1:TS:=λD σ H=>D.nx σ H
def QH(t u:TS):TS:=λD σ H=>t {D with nx:=u D} σ H
theorem IL:PSs X [] O1:=λ_ _ σ H _ I h=>XU ⟨σ,H,I,h⟩
theorem Eh(g:PS X st t)(c:PSs X rest u):PSs X (st::rest) (QH t u):=by
 intro b s σ H D I h;refine jby (bB (g b s σ H {D with nx:=u D} I h) λf d q=>?_);cases f with
 |next=>
  obtain⟨a,e,i,q⟩:=q;exact c b d a e D i q
 |ret v=>exact q
 |brk=>exact q
 |cont=>exact q
theorem IK(b:PS X st t):PSs X [st] t:=by
 intro a s σ H D I h;refine jby (bB (b a s σ H D I h) λf c q=>?_);cases f with
 |next=>exact XU q
 |ret v=>exact q
 |brk=>exact q
 |cont=>exact q
theorem Inv.quiet{H:Hp}(I:Inv X aa σ H s):interactive X.env=false:=by simp[interactive,I.ok.kind]
def Pk(b:TE):TS:=λD σ H=>b σ H λ_ a=>D.nx σ a
theorem Bp(f:PE X e te)(c:Uw e Sr pos.line X.env=pure false:=by rfl):PS X (.Expr e pos) (Pk te):=by
 intro d s σ H D I h;exact wpAny_Expr_any (bB (f d s σ H _ I h) λv i ⟨x,a,b,j,g⟩=>⟨σ,a,b,g⟩) I.quiet c
def QX(a:TE):TS:=λD σ H=>a σ H D.rt
theorem Fj(d:PE X e te):PS X (.Return (p5 e) pos) (QX te):=by
 intro c s σ H D I h;exact wpAny_Return_some (bB (d c s σ H _ I h) λv i ⟨x,a,b,g,f⟩=>⟨x,σ,a,b,g,f⟩)
def Rt(c:TT)(t u:TS):TS:=λD σ H=>c σ H λb a=>if b=S1 then t D σ a else u D σ a
theorem PY(n:PT X c tc)(l:PSs X a t)(m:PSs X b u):PS X (.If c a b pos) (Rt tc t u):=by
 intro e s σ H D I h;refine wpAny_If (bB (n e s σ H _ I h) λd j f=>?_);obtain⟨g,i,k⟩:=f;cases d with
 |true=>exact l e j σ g D i k
 |false=>exact m e j σ g D i k
end
abbrev TG:=V->St->Hp->(St->Hp->Prop)->Prop
abbrev G1:=List V->St->Hp->(St->Hp->Prop)->Prop
def PG(X:Cx)(a:Expr)(t:TG):Prop:=
 ∀(d:List (Addr×Obj)) (s:Sx) (σ:St) (H:Hp) (v:V) (u:Sw) (Q:St->Hp->Prop),Inv X d σ H s->b6 v u->t v σ H Q->
  SL (model X.prog X.w) X.A (VY a X.env u) (λ_ s'=> ∃b c,Inv X d b c s'/\Q b c) X.xe s
def PGs(X:Cx)(d:List Expr)(t:G1):Prop:=
 ∀(c:List (Addr×Obj)) (s:Sx) (σ:St) (H:Hp) (vs:List V) (us:List Sw) (Q:St->Hp->Prop),Inv X c σ H s->cc vs us->t vs σ H Q->
  SL (model X.prog X.w) X.A (jan ((UQ d X.env).map (·.2)) us) (λ_ s'=> ∃a b,Inv X c a b s'/\Q a b) X.xe s
abbrev Nr:=V->V->V->Hp->(Hp->Prop)->Prop
def Px(X:Cx)(t:Nr):Prop:=
 ∀(c:List (Addr×Obj)) (s:Sx) (σ:St) (H:Hp) (o i v:V) (ov b u:Sw) (Q:Hp->Prop),Inv X c σ H s->b6 o ov->b6 i b->b6 v u->t o i v H Q->
  SL (model X.prog X.w) X.A (setItem ov b u) (λ_ s'=> ∃a,Inv X c σ a s'/\Q a) X.xe s
section
variable {X:Cx}{pos:Pos}
def Af(i:Nat):TG:=λv σ H Q=>Q (σ.set i (p5 v)) H
theorem Lj {i:Nat}(d:X.N.Nodup)(b:X.N[i]? =p5 x)(a:CO X.env.scope x)(c:X.fn x=S1\/X.env.scope.names.lookup x=p5 .local:=by first|exact .inl rfl|exact .inr rfl|assumption):PG X (.Name x pos) (Af i):=by
 intro f s σ H v u Q I r h;exact YF (lj I d b a r (λs' e=>⟨_,H,e,h⟩) c)
def QM:G1:=λvs σ H Q=>vs=[]/\Q σ H
def O9(t:TG)(u:G1):G1:=λvs σ H Q=> ∃v r,vs=v::r/\t v σ H λa b=>u r a b Q
theorem BF:PGs X [] QM:=by
 intro a s σ H vs us Q I r h;obtain⟨e,h⟩:=h;subst e;cases r;exact jaV ⟨σ,H,I,h⟩
theorem xS(k:PG X e t)(f:PGs X es u)
 (i:(UQ (e::es) X.env).map (·.2)=VY e X.env::(UQ es X.env).map (·.2):=by rfl):PGs X (e::es) (O9 t u):=by
 intro c s σ H vs us Q I r h;obtain⟨v,o,j,h⟩:=h;subst j;cases r with
 |cons r m=>
  rw[i];refine Yp (bB (k c s σ H _ _ _ I r h) λ_ g b=>?_);obtain⟨a,d,l,n⟩:=b;exact f c g a d _ _ Q l m n
def Rf(K:SA)(n:Nat)(t:G1):TG:=λv σ H Q=> ∃a xs,v=.ref a/\SqT K H a xs/\xs.length=n/\t xs σ H Q
theorem Hd(l:X.calm=S1)(h:PGs X es t)
 (g:(UQ es X.env).length=n:=by rfl) (c:(UQ es X.env).findIdx? (·.1)=none:=by rfl):PG X (.Tuple es k pos) (Rf X.K n t):=by
 intro d s σ H v u Q I r hw;obtain⟨a,xs,f,i,p,hw⟩:=hw;subst f;cases r;obtain⟨q,x,w,hz⟩:=I.tuple i;refine assign_Tuple_tuple (I.ok.hd l) w (by simp[g,<-p,x.length]) c λh' m=>?_
 have j:Inv X d σ H {s with heap:=h'}:=I.kept (t':=s.toks) λb o e=>m b o (S7 (SH e)) e
 exact h d _ σ H xs _ Q j (by omega) hw
def Rk(to c:TE)(t:Nr):TG:=λv σ H Q=>to σ H λo b=>c σ b λi d=>t o i v d λa=>Q σ a
theorem LV(C:PE X o to)(k:PE X i ti)(j:Px X t)
 (B: ∀v,VY (.Subscript o i pos) X.env v=(do
   let ov <-WZ [v] (eval o X.env)
   let b <-WZ [v,ov] (eval i X.env)
   YG pos
   WZ [v,ov,b] (setItem ov b v)
   release [v,ov,b] []):=by intro _;rfl):PG X (.Subscript o i pos) (Rk to ti t):=by
 intro c s σ H v u Q I r h;rw[B];refine Ss (TM (bB (C c s σ H _ I h) λov g a=>?_));obtain⟨x,f,p,D,A⟩:=a;refine Ss (TM (bB (k c g σ f _ p A) λb w a=>?_));obtain⟨y,m,e,z,l⟩:=a;refine Ss (Vb (Ss (TM (bB (j c w σ m x y v ov b u _ e D z r l) λ_ E a=>?_))));obtain⟨d,n,q⟩:=a;exact wpAny_release ⟨σ,d,n,q⟩
def IO(b:TE)(g:TG):TS:=λD σ H=>b σ H λx a=>g x σ a D.nx
theorem F2(l:PE X e te)(i:PG X tg g)(d:XI [tg] e pos.line X.env=pure false:=by rfl)(hw:XJ [tg] e X.env=pure none:=by rfl)
 (f:(UQ [tg] X.env).map (·.2)=[VY tg X.env]:=by rfl):PS X (.Assign [tg] e pos) (IO te g):=by
 intro a s σ H D I h;refine wpAny_Assign_stores (bB (l a s σ H _ I h) λv c ⟨x,b,k,m,j⟩=>?_) d hw;rw[f];exact bB (i a c σ b x v _ k m j) λ_ n q=>q
theorem j0(m:X.N.Nodup)(g:X.N[i]? =p5 x)(a:CO X.env.scope x)(n:PE X e te)(d:Uw e (p5 (.Name x pos')) pos.line X.env=pure false:=by rfl)(j:X.fn x=S1\/X.env.scope.names.lookup x=p5 .local:=by first|exact .inl rfl|exact .inr rfl|assumption):
 PS X (.Assign [.Name x pos'] e pos) (IO te (Af i)):=by
 intro f s σ H D I h;refine wpAny_Assign_Name (bB (n f s σ H _ I h) λv p ⟨y,c,l,o,k⟩=>?_) d;exact lj l m g a o (λq b=>⟨_,c,b,k⟩) j
def QI(i j:Nat)(b:TA):TS:=λD σ H=>b σ H λvs a=> ∃v w,vs=[v,w]/\D.nx ((σ.set i (p5 v)).set j (p5 w)) a
theorem M6{a b:Expr}{kt k2 pt2}(P:X.calm=S1)(u:X.N.Nodup)(J:X.N[i]? =p5 x)(Q:X.N[j]? =p5 y)(n:i≠j)
 (z:X.env.scope.names.lookup x=p5 .local) (C:X.env.scope.names.lookup y=p5 .local) (S:PA X [a,b] ta)
 (hw:XJ [.Tuple [.Name x px,.Name y py] kt pt] (.Tuple [a,b] k2 pt2) X.env=pure (p5 [x,y]))
 (F:XI [.Tuple [.Name x px,.Name y py] kt pt] (.Tuple [a,b] k2 pt2) pos.line X.env=pure false:=by rfl):
 PS X (.Assign [.Tuple [.Name x px,.Name y py] kt pt] (.Tuple [a,b] k2 pt2) pos) (QI i j ta):=by
 intro t s σ H D I h;rw[exec_Assign_arm];refine Ss (Vb ?_);rw[F];refine Ss (Sv ?_);rw[if_neg ()];refine Ss (Tuple_ (bB (S _ t s σ H _ I h) λus c k=>?_));obtain⟨vs,r,M,U,l⟩:=k;obtain⟨v,w,G,l⟩:=l;subst G;obtain⟨d,f,rfl,T,m⟩: ∃d f,us=[d,f]/\b6 v d/\b6 w f:=by
  cases U with
  |cons p q=>
   cases q with
   |cons R O=>
    cases O;exact⟨_,_,rfl,p,R⟩
 refine T6 ?_ (by show 2<=SU;decide)
 have E:Inv X t σ r {c with heap:=c.heap.push {cls:=.type "tuple",data:=.seq [d,f].toArray}}:=M.kept (t':=c.toks) λb o e=>Sy _ e
 rw[hw];refine Ss (Sv ?_);show SL (model X.prog X.w) X.A (do rule "assign.swapped-stores";let items <-unpackItems (.ref c.heap.objs.size) 2 none;jan [λv=>jcK X.env y v,λv=>jcK X.env x v] items.reverse;pure Flow.next) _ _ _;refine Ss (XA (Ss (unpackItems_tuple (items:= #[d,f]) (I.ok.hd P) (jex c.heap _) λh' g=>?_)));have L:=E.kept (h':=h') (t':=c.toks) λb o e=>g b o (S7 (SH e)) e
 show SL _ _ (jan [λv=>jcK X.env y v,λv=>jcK X.env x v] [f,d]>>=λ_=>pure Flow.next) _ _ _;refine Ss (Yp (wpAny_bindName (lj L u Q (.inl C) m (λW K=>?_) (.inr C))));refine Yp (wpAny_bindName (lj K u J (.inl z) T (λV B=>jaV (Sv ?_)) (.inr z)));rw[List.set_comm _ _ (To n)] at B;exact⟨_,r,B,l⟩
end
section
variable {X:Cx}
def Mu(c:TT)(g:TS):TS:=λD σ H=> ∃W:Nat->St->Hp->Prop,(∃m,W m σ H)/\ ∀m σ H,W m σ H->
 c σ H λb d=>if b=S1 then∃N:St->Hp->Prop,(∀a e,N a e-> ∃f,f<m/\W f a e)/\g {D with nx:=N,ct:=N,bk:=D.nx} σ d else D.nx σ d
theorem Hy(q:jbz (model X.prog X.w) X.A X.env X.xe)(E:PT X c tc)(z:PSs X body tb):PS X (.While c body [] pos) (Mu tc tb):=by
 intro k s σ H D I h;obtain⟨W,⟨G,x⟩,turn⟩:=h;refine wpAny_While (codeAny_whileLoop (λn s'=> ∃e p,Inv X k e p s'/\W n e p) ?_ G ⟨σ,H,I,x⟩);rintro n y ⟨a,o,C,M⟩;refine VA q (bB (E k y a o _ C (turn n a o M)) λb J l=>?_);obtain⟨r,m,g⟩:=l;cases b with
 |true=>
  obtain⟨N,F,g⟩:=g;rw[if_pos rfl];refine VA q (bB (z k J a r _ m g) λf O i=>?_);cases f with
  |next=>
   obtain⟨d,j,t,u⟩:=i;grind
  |cont=>
   obtain⟨d,j,t,u⟩:=i;obtain⟨L,K,B⟩:=F d j u;exact⟨L,K,d,j,t,B⟩
  |brk=>exact i
  |ret v=>exact i
 |false=>
  rw[if_neg V9];exact XU ⟨a,r,m,g⟩
end
structure It where
 go:Nat->Hp->Prop
 yld:Nat->Hp->V->Hp->Prop
 stop:Nat->Hp->Prop
def ik(X:Cx)(a:List (Addr×Obj))(H:Hp)(b:Addr):Prop:=
 H b=Sr/\b≠X.env.locals/\b∉X.fs/\(b∈X.ex\/X.s₀.heap.objs.size<=b)/\(∀x c,X.env.cells.lookup x=p5 c->c≠b)/\ ∀p∈X.pn++a,p.1≠b
theorem Inv.fpOk{H d:Hp}{s:Sx}(I:Inv X aa σ H s)(a:s.heap.objs.size<=b)(g:d b=Sr):ik X aa d b:=by
 refine⟨g,Ux (SQ I.lt a),I.nofs a,.inr (Tz I.sz a),λx c e z=>?_,λp f z=>?_⟩
 ·obtain⟨v,q⟩:=I.cell x c e;exact absurd (SQ q.lt (by nofun)) (TH _)
 ·exact absurd (SQ (SH (I.pin p f).1) (by nofun)) (TH _)
structure ox(P:S9)(w:Tu)(K:SA)(tg:Expr)(J:It)(fp:List Addr)(it:Addr)(tn:Nat->Heap->Prop):Prop where
 mem:it∈fp
 obj: ∀i h,tn i h-> ∀b∈fp,∃o,h.get? b=p5 o/\ ∀v,o.data≠ .cell v
 keep: ∀i h h',tn i h->(∀b∈fp,∀o,h.get? b=p5 o->h'.get? b=p5 o)->tn i h'
 item: ∀(X:Cx),X.prog=P->X.w=w->X.K=K->X.calm=S1-> ∀(i:Nat) (aa:List (Addr×Obj)) (s:Sx) (σ:St) (H:Hp) (E:Sw->Sx->Prop),Inv X aa σ H s->(∀b∈fp,ik X aa H b)->tn i s.heap->J.go i H->
  SL (model P w) X.A (Wa (.ref it)) (λr s1=> ∃u,r=p5 u/\
   SL (model P w) X.A (VB tg (.ref it) u) (λ_ s2=> ∃x H',Inv X aa σ H' s2/\b6 x u/\J.yld i H x H'/\tn (i+1) s2.heap/\ ∀b∈fp,H' b=Sr) E s1) E s
 done: ∀(X:Cx),X.prog=P->X.w=w->X.K=K->X.calm=S1-> ∀(i:Nat) (aa:List (Addr×Obj)) (s:Sx) (σ:St) (H:Hp) (E:Sw->Sx->Prop),Inv X aa σ H s->(∀b∈fp,ik X aa H b)->tn i s.heap->J.stop i H->
  SL (model P w) X.A (Wa (.ref it)) (λr s1=>r=Sr/\Inv X aa σ H s1) E s
 self: ∀(A:Tr) (i:Nat) (s:Sx) (Q:Sw->Sx->Prop) (E:Sw->Sx->Prop),tn i s.heap->Q (.ref it) s->SL (model P w) A (YS (.ref it)) Q E s
abbrev TI:=St->Hp->(It->Hp->Prop)->Prop
def RL(X:Cx)(e:List (Addr×Obj))(σ:St)(g:Expr)(R:It->Hp->Prop)(c:Sw)(d:Sx):Prop:=
 ∃(it:Addr) (fp:List Addr) (f:Nat->Heap->Prop) (J:It) (a:Hp),c=.ref it/\Inv X e σ a d/\ox X.prog X.w X.K g J fp it f/\f 0 d.heap/\(∀b∈fp,ik X e a b)/\R J a
def PI(X:Cx)(d a:Expr)(e:TI):Prop:=
 ∀(b:List (Addr×Obj)) (s:Sx) (σ:St) (H:Hp) (R:It->Hp->Prop),Inv X b σ H s->e σ H R->
  SL (model X.prog X.w) X.A (eval a X.env) (λv c=>SL (model X.prog X.w) X.A (YS v) (RL X b σ d R) X.xe c) X.xe s
theorem Ae{s:Sx}{o:Obj}{n:String}(d:s.heap.get? it=p5 o)(e:o.cls=.type n)(c:o.data=.fields vs)
 (b:["enumerate","zip","dict_itemiterator","dict_reverseitemiterator","odict_iterator","itertools.zip_longest","itertools.pairwise"].contains n=Pa) (a:Q Unit.unit s):SL M A (VB tg (.ref it) u) Q E s:=by
 unfold VB;cases tg<;>first
  |exact Sv a
  |(cases u<;>first
     |exact Sv a
     |(refine Ss (jcM d ?_)
       rw[e,c];show SL M A (if(["enumerate","zip","dict_itemiterator","dict_reverseitemiterator","odict_iterator","itertools.zip_longest","itertools.pairwise"].contains n&&vs[0]? ==p5 (Wb _))=S1 then _ else _) Q E s;rw[if_neg (by intro h;rw[b,jcC] at h;nofun)]
       exact Sv a))
def QE(K:SA)(a:Addr):It:=
 ⟨λi H=> ∃xs x,SqL K H a xs/\xs[i]? =p5 x,λi H x b=>b=H/\ ∀xs,SqL K H a xs->xs[i]? =p5 x,λi H=> ∃xs,SqL K H a xs/\xs.length<=i⟩
def Rc(K:SA)(a:Addr):It:=
 ⟨λi H=> ∃xs x,SqT K H a xs/\xs[i]? =p5 x,λi H x b=>b=H/\ ∀xs,SqT K H a xs->xs[i]? =p5 x,λi H=> ∃xs,SqT K H a xs/\xs.length<=i⟩
def Ql(b:Int)(n:Nat):It:=⟨λi _=>i<n,λi H x a=>a=H/\x=.int (b+i),λi _=>n<=i⟩
theorem Dm{K:SA}(a it:Addr):ox P w K tg (QE K a) [it] it (λi h=>h.IsListIter it a i) where
 mem:=by simp
 obj:=λi h st b f=>by
  have e:b=it:=by simpa using f
  subst e;obtain⟨o,e,c,d⟩:=st;exact⟨o,e,λv z=>by nofun⟩
 keep:=λi h h' st k=>st.at λo e=>k it (by simp) o e
 item:=by
  intro X m hw A J i G s σ H E I l st n;subst m hw A;obtain⟨xs,x,j,r⟩:=n;obtain⟨B,F,p,hz⟩:=I.list j;obtain⟨u,R,M⟩:=F.get r;obtain⟨q,y,L,C,D,t⟩:=l it (by simp);refine wpAny_pyNext_list_item st p.isList (x:=u) (by simpa using R) λh' g O=>?_
  have N:Inv X G σ H {s with heap:=h'}:=I.turned (t':=s.toks) (λb o f e=>(O.2 b f).trans e) q y C D t;obtain⟨o,e,c,d⟩:=id g;exact⟨u,rfl,Ae (s:={s with heap:=h'}) e c d (by rfl) ⟨x,H,N,M,⟨rfl,λys S=>by rw[I.list_inj S j];exact r⟩,g,λb f=>(l b f).1⟩⟩
 done:=by
  intro X m hw A J i G s σ H E I l st n;subst m hw A;obtain⟨xs,j,r⟩:=n;obtain⟨B,F,p,hz⟩:=I.list j;obtain⟨q,y,L,C,D,t⟩:=l it (by simp);have T:=F.length;exact wpAny_pyNext_list_end (I.ok.hd J) st p.isList (by nofun) λh' Q=>⟨rfl,I.turned (t':=s.toks) (λb o f e=>Q b o f e) q y C D t⟩
 self:=λ_ _ _ _ _ st h=>wpAny_pyIter_listiter st h
theorem zB{K:SA}(a it:Addr):ox P w K tg (Rc K a) [it] it (λi h=>h.IsTupleIter it a i) where
 mem:=by simp
 obj:=λi h st b f=>by
  have e:b=it:=by simpa using f
  subst e;obtain⟨o,e,c,d⟩:=st;grind
 keep:=λi h h' st k=>st.at λo e=>k it (by simp) o e
 item:=by
  intro X n hw z F i D s σ H E I m st q;subst n hw z;obtain⟨xs,x,l,t⟩:=q;obtain⟨g,C,p,hz⟩:=I.tuple l;obtain⟨u,O,J⟩:=C.get t;obtain⟨r,y,G,A,B,v⟩:=m it (by simp);refine wpAny_pyNext_tuple_item st (show s.heap.IsTuple a g.toArray from p) (x:=u) (by simpa using O) λh' j M=>?_
  have L:Inv X D σ H {s with heap:=h'}:=I.turned (t':=s.toks) (λb o f e=>(M.2 b f).trans e) r y A B v;obtain⟨o,e,c,d⟩:=id j;exact⟨u,rfl,Ae (s:={s with heap:=h'}) e c d (by rfl) ⟨x,H,L,J,⟨rfl,λys Q=>by rw[I.tuple_inj Q l];exact t⟩,j,λb f=>(m b f).1⟩⟩
 done:=by
  intro X n hw z F i D s σ H E I m st q;subst n hw z;obtain⟨xs,l,t⟩:=q;obtain⟨g,C,p,hz⟩:=I.tuple l;obtain⟨r,y,G,A,B,v⟩:=m it (by simp);have R:=C.length;exact wpAny_pyNext_tuple_end (I.ok.hd F) st (show s.heap.IsTuple a g.toArray from p) (by simp;omega) λh' N=>⟨rfl,I.turned (t':=s.toks) (λb o f e=>N b o f e) r y A B v⟩
 self:=λ_ _ _ _ _ st h=>wpAny_pyIter_tupleiter st h
theorem yP{K:SA}(it:Addr)(f:Int)(n:Nat):ox P w K tg (Ql f n) [it] it (λi h=>IsRangeIter h it (f+(i:Nat)*1) ((n:Int) - (i:Nat)) 1) where
 mem:=by simp
 obj:=λi h st b a=>by
  grind
 keep:=λi h h' st k=>k it (by simp) _ st
 item:=by
  intro X g hw r l i y s σ H E I d st j;subst g hw r;obtain⟨m,q,z,u,x,p⟩:=d it (by simp);have W:=Walks.range (prog:=X.prog) (w:=X.w) (I.ok.hd l) it f 1 n;refine W.item i s _ _ j st λv h' tk hv c A=>?_
  obtain⟨t,rfl⟩:=hv;have B:Inv X y σ H {s with heap:=h',toks:=tk}:=I.turned (λb o a e=>A b o (by simpa using a) e) m q u x p;refine⟨_,rfl,Ae (s:={s with heap:=h',toks:=tk}) (n:="range_iterator") c rfl rfl (by rfl) ⟨.int (f+i),H,B,⟨t,?_⟩,⟨rfl,rfl⟩,c,λb a=>(d b a).1⟩⟩;simp
 done:=by
  intro X g hw r l i y s σ H E I d st j;subst g hw r;obtain⟨m,q,z,u,x,p⟩:=d it (by simp);exact wpAny_pyNext_range_end (I.ok.hd l) st (by have:n<=i:=j;lia) λh' C=>⟨rfl,I.turned (t':=s.toks) (λb o a e=>C b o a e) m q u x p⟩
 self:=λ_ _ _ _ _ st h=>wpAny_pyIter_rangeiter st h
section
variable {X:Cx}{tg:Expr}
def O7(K:SA)(c:TE):TI:=λσ H R=>c σ H λx b=> ∃a,x=.ref a/\(∃xs,SqL K b a xs)/\R (QE K a) b
def Ry(K:SA)(c:TE):TI:=λσ H R=>c σ H λx b=> ∃a,x=.ref a/\(∃xs,SqT K b a xs)/\R (Rc K a) b
theorem Ba(m:PE X l tl):PI X tg l (O7 X.K tl):=by
 intro j s σ H R I h;refine bB (m j s σ H _ I h) λv c f=>?_
 obtain⟨x,g,d,t,r⟩:=f;obtain⟨a,e,⟨xs,k⟩,q⟩:=r;subst e;cases t;obtain⟨n,u,p,hz⟩:=d.list k;refine YH p.isList ?_
 refine⟨c.heap.objs.size,[c.heap.objs.size],_,_,g,rfl,d.kept (t':=c.toks) λb o e=>Sy _ e,Dm a _,⟨_,SC _ rfl,rfl,rfl⟩,λb i=>?_,q⟩;have e:b=c.heap.objs.size:=by simpa using i
 subst e;exact d.fpOk (SB _) (d.hok.fresh (SB _))
theorem MN(n:PE X l tl):PI X tg l (Ry X.K tl):=by
 intro k s σ H R I h;refine bB (n k s σ H _ I h) λv c g=>?_
 obtain⟨x,i,d,t,r⟩:=g;obtain⟨a,e,⟨xs,m⟩,q⟩:=r;subst e;cases t;obtain⟨f,u,p,hz⟩:=d.tuple m;refine W4 (show c.heap.IsTuple a f.toArray from p) ?_
 refine⟨c.heap.objs.size,[c.heap.objs.size],_,_,i,rfl,d.kept (t':=c.toks) λb o e=>Sy _ e,zB a _,⟨_,SC _ rfl,rfl,rfl⟩,λb j=>?_,q⟩;have e:b=c.heap.objs.size:=by simpa using j
 subst e;exact d.fpOk (SB _) (d.hok.fresh (SB _))
theorem Ei{s:Sx}{a c:Int}{tk:Nat}(I:Inv X aa σ H s)(j: -(2^62)<=a)(g:a<2^62)(k: -(2^62)<=c)(l:c<2^62)
 (q:R (Ql a (c-a).toNat) H):SL (model X.prog X.w) X.A (YS (.ref s.heap.objs.size)) (RL X aa σ tg R) E {s with heap:=s.heap.push {cls:=.type "range",data:=.fields #[.int a t,.int c u,.int 1 v]},toks:=tk}:=by
 refine wpAny_pyIter_range (IsRange.new ..) (small_one j g k l) ?_
 have d:Inv X aa σ H {s with heap:=s.heap.push {cls:=.type "range",data:=.fields #[.int a t,.int c u,.int 1 v]},toks:=tk}:=I.kept λb o e=>Sy _ e
 refine⟨(s.heap.push {cls:=.type "range",data:=.fields #[.int a t,.int c u,.int 1 v]}).objs.size,[(s.heap.push {cls:=.type "range",data:=.fields #[.int a t,.int c u,.int 1 v]}).objs.size],_,_,H,rfl,
  d.kept (t':=tk) λb o e=>Sy _ e,yP _ a (c-a).toNat,?_,λb h=>?_,q⟩
 ·have i:a+((0:Nat):Int)*1=a:=by simp
  have f:(((c-a).toNat:Nat):Int) - ((0:Nat):Int)=W8 a c 1:=by grind[rangeSize_one]
  show IsRangeIter _ _ (a+((0:Nat):Int)*1) ((((c-a).toNat:Nat):Int) - ((0:Nat):Int)) 1;rw[i,f];exact SC _ rfl
 ·have e:b=(s.heap.push {cls:=.type "range",data:=.fields #[.int a t,.int c u,.int 1 v]}).objs.size:=by simpa using h
  subst e;exact d.fpOk (SB _) (d.hok.fresh (SB _))
def Ou(b:TA):TI:=λσ H R=>b σ H λvs a=> ∃j:Int,vs=[.int j]/\ -(2^62)<=j/\j<2^62/\R (Ql 0 j.toNat) a
theorem DX{p b:Pos}(k:Gl X "range")(g:X.mg "range"=Sr)(l:PA X [a] ta)(f:SF [a] X.env=[(Pa,eval a X.env)]:=by rfl):PI X tg (.Call (.Name "range" p) [a] [] b) (Ou ta):=by
 intro d s σ H R I h;refine Call_ (iR I k g boot_range (UU (bB (l b d s σ H _ I h) λus v ⟨vs,u,m,o,c⟩=>?_) f rfl));obtain⟨j,e,c,i,q⟩:=c;subst e;cases o with
 |cons r n=>
  cases n;obtain⟨t,rfl⟩:=r;exact call_range_1 (Ei m (by simp) (by simp) c i (by nofun))
def Rh(j:TI)(g:TG)(f:TS):TS:=λD σ H=>j σ H λJ e=> ∃W:Nat->Nat->St->Hp->Prop,(∃m,W 0 m σ e)/\ ∀i m σ H,W i m σ H->
 (J.stop i H/\D.nx σ H)\/(J.go i H/\ ∃N:St->Hp->Prop,(∀b a,N b a-> ∃d,d<m/\W (i+1) d b a)/\ ∀x a,J.yld i H x a->g x σ a λc h=>f {D with nx:=N,ct:=N,bk:=D.nx} c h)
def mJ(fp:List Addr)(h:Heap):List (Addr×Obj):=fp.filterMap λb=>(h.get? b).map λo=>(b,o)
theorem eE{h:Heap}{b:Addr}(a:b∈fp)(e:h.get? b=p5 o):(b,o)∈mJ fp h:=Ym.mpr ⟨b,a,by rw[e];rfl⟩
theorem C6{h:Heap}{p:Addr×Obj}(c:p∈mJ fp h):p.1∈fp/\h.get? p.1=p5 p.2:=by
 obtain⟨b,a,e⟩:=Ym.mp c;cases q:h.get? b with
 |none=>nofun
 |some o=>
  rw[q] at e;have d:(b,o)=p:=XT e;subst d;exact⟨a,q⟩
theorem Inv.pinned{s:Sx}(I:Inv X aa σ H s)(f: ∀b∈fp,ik X aa H b)(g: ∀b∈fp,∃o,s.heap.get? b=p5 o/\ ∀v,o.data≠ .cell v):Inv X (aa++mJ fp s.heap) σ H s:=
 I.pins_of λp c=>(Tf.mp c).elim (λz=>I.pin p (Tt _ z)) λz=>by
  obtain⟨a,e⟩:=C6 z;obtain⟨j,k,h,_⟩:=f p.1 a;obtain⟨o,i,d⟩:=g p.1 a;nofun
theorem Inv.unpinned {a pl:List (Addr×Obj)}{H:Hp}(I:Inv X (a++pl) σ H s):Inv X a σ H s:=I.pins_of λp b=>I.pin p (Tt _ (Ub _ b))
theorem Nc {p:Expr}(L:jbz (model X.prog X.w) X.A X.env X.xe)(hc:X.calm=S1)(hi:PI X tg p wi)(hg:PG X tg g)(k:PSs X body tb)
 (hs: ∀x,TY p X.env x=pure x:=by intro _;rfl):PS X (.For tg p body [] pos) (Rh wi g tb):=by
 intro C s σ H D I h;refine wpAny_For (bB (hi C s σ H _ I h) λv s1 h1=>bB h1 λitv s2 h2=>?_) hs;obtain⟨it,fp,tn,J,H2,e,I2,T,Y,f2,W,⟨m0,w0⟩,turn⟩:=h2;subst e;have t: ∀ {z:Hp},(∀b∈fp,z b=Sr)-> ∀b∈fp,ik X C z b:=λhn b k=>⟨hn b k,(f2 b k).2⟩
 refine codeAny_forLoop_any (λn s'=> ∃i l z,Inv X C l z s'/\tn i s'.heap/\(∀b∈fp,z b=Sr)/\W i n l z) ?_ m0 ⟨0,σ,H2,I2,Y,λb k=>(f2 b k).1,w0⟩;rintro n s3 ⟨i,y,P,I3,G,M,w3⟩;rcases turn i n y P w3 with⟨O,qn⟩|⟨go,N,hN,F⟩
 ·refine VA L (bB (T.done X rfl rfl rfl hc i C s3 y P X.xe I3 (t M) G O) λr s4 c=>?_);obtain⟨R,I4⟩:=c;subst R;exact XU ⟨y,P,I4,qn⟩
 ·refine VA L (bB (T.item X rfl rfl rfl hc i C s3 y P X.xe I3 (t M) G go) λr s4 c=>?_);obtain⟨u,R,h4⟩:=c;subst R;refine VA L (bB h4 λ_ s5 c=>?_);obtain⟨x,Z,I5,r5,y5,E,S⟩:=c;have U:=I5.pinned (t S) (T.obj _ _ E);refine VA L (bB (hg _ s5 y Z x u _ U r5 (F x Z y5)) λ_ s6 c=>?_);obtain⟨Q,H6,I6,q6⟩:=c;refine VA L (bB (k _ s6 Q H6 _ I6 q6) λf V B=>?_);have ZW: ∀ {a:St} {q:Hp},Inv X (C++mJ fp s5.heap) a q V->N a q-> ∃m,m<n/\ ∃i l z,Inv X C l z V/\tn i V.heap/\(∀b∈fp,z b=Sr)/\W i m l z:=λ{a q} j K=>by
   obtain⟨m',hm,w7⟩:=hN a q K;refine⟨m',hm,i+1,a,q,j.unpinned,T.keep _ _ _ E λb k o e=>(j.pin (b,o) (Tt _ (Tt _ (eE k e)))).1,λb k=>?_,w7⟩;obtain⟨o,e,d⟩:=T.obj _ _ E b k;exact(j.pin (b,o) (Tt _ (Tt _ (eE k e)))).2.1
  cases f with
  |next=>obtain⟨a,q,j,K⟩:=B;exact ZW j K
  |cont=>obtain⟨a,q,j,K⟩:=B;exact ZW j K
  |brk=>obtain⟨a,q,j,B⟩:=B;exact⟨a,q,j.unpinned,B⟩
  |ret v=>obtain⟨x7,a,q,j,r7,B⟩:=B;exact⟨x7,a,q,j.unpinned,r7,B⟩
end
abbrev R2:=V->V->Hp->VK->Prop
def kZ(X:Cx)(f:Sw->Sw->Sem Sw)(r:R2):Prop:=
 ∀(a:List (Addr×Obj)) (s:Sx) (σ:St) (H:Hp) (x y:V) (v u:Sw) (Q:VK),Inv X a σ H s->b6 x v->b6 y u->r x y H Q->
  SL (model X.prog X.w) X.A (f v u) (EP X a σ Q) X.xe s
def Rz(X:Cx)(f:Sw->Sem Sw)(r:V->Hp->VK->Prop):Prop:=
 ∀(a:List (Addr×Obj)) (s:Sx) (σ:St) (H:Hp) (x:V) (v:Sw) (Q:VK),Inv X a σ H s->b6 x v->r x H Q->
  SL (model X.prog X.w) X.A (f v) (EP X a σ Q) X.xe s
def cO(X:Cx)(f:Sw)(r:List V->Hp->VK->Prop):Prop:=
 ∀(a:List (Addr×Obj)) (s:Sx) (σ:St) (H:Hp) (xs:List V) (us:List Sw) (Q:VK),Inv X a σ H s->cc xs us->r xs H Q->
  SL (model X.prog X.w) X.A (call f us) (EP X a σ Q) X.xe s
def Ro(X:Cx)(r:V->Hp->(Bool->Hp->Prop)->Prop):Prop:=
 ∀(a:List (Addr×Obj)) (s:Sx) (σ:St) (H:Hp) (x:V) (v:Sw) (Q:Bool->Hp->Prop),Inv X a σ H s->b6 x v->r x H Q->
  SL (model X.prog X.w) X.A (truthy v) (TP X a σ Q) X.xe s
def N2(r:R2)(d b:TE):TE:=λσ H Q=>d σ H λx a=>b σ a λy c=>r x y c Q
def Sk(r:V->Hp->VK->Prop)(b:TE):TE:=λσ H Q=>b σ H λx a=>r x a Q
def rI(C:Int->Int->Prop)(g:Int->Int->V):R2:=λx y H Q=> ∃i j,x=.int i/\y=.int j/\C i j/\Q (g i j) H
def EK(g:Int->Int->V):R2:=λx y H Q=> ∃i j,x=.int i/\y=.int j/\Q (g i j) H
def rU(g:Int->V):V->Hp->VK->Prop:=λx H Q=> ∃i,x=.int i/\Q (g i) H
section
variable {X:Cx}
theorem NH(r:PE X a ta)(m:PE X b tb){H:Hp}{R:V->V->Hp->Prop}(I:Inv X aa σ H s)
 (h:ta σ H λx j=>tb σ j λy d=>R x y d) {f:Sw->Sw->Sem Sw}
 (p: ∀v u i x y d,Inv X aa σ d i->b6 x v->b6 y u->R x y d->SL (model X.prog X.w) X.A (f v u) Q X.xe i):
 SL (model X.prog X.w) X.A (eval a X.env) (λv g=>SL (model X.prog X.w) X.A (eval b X.env) (λu e=>SL (model X.prog X.w) X.A (f v u) Q X.xe e) X.xe g) X.xe s:=by
 refine bB (r aa s σ H _ I h) λv l c=>?_
 obtain⟨x,j,t,z,q⟩:=c;refine bB (m aa l σ j _ t q) λu i c=>?_
 obtain⟨y,d,k,n,o⟩:=c;exact p v u i x y d k z n o
theorem D4(l:kZ X (Vt op) r)(j:PE X a ta)(d:PE X b tb):PE X (.BinOp a op b pos) (N2 r ta tb):=by
 intro e s σ H Q I h;exact wpAny_BinOp (NH j d I h λv u g x y f c i k q=>l e g σ f x y v u Q c i k q)
theorem PJ(f:Rz X (unaryOp op) r)(d:PE X a ta):PE X (.UnaryOp op a pos) (Sk r ta):=by
 intro b s σ H Q I h;exact UnaryOp_ (bB (d b s σ H _ I h) λv g ⟨x,c,e,j,i⟩=>f b g σ c x v Q e j i)
theorem Pw{g:Int->Int->Int}
 (a: ∀(i j:Int) (t u:Tok) (s:Sx) (Q:Sw->Sx->Prop) (E:Sw->Sx->Prop),C i j->Q (.int (g i j) s.toks) {s with toks:=s.toks+1}->SL (model X.prog X.w) X.A (f (.int i t) (.int j u)) Q E s):
 kZ X f (rI C λi j=>.int (g i j)):=by
 intro e s σ H x y v u Q I c d h;obtain⟨i,j,rfl,rfl,b,q⟩:=h;obtain⟨t,rfl⟩:=c;obtain⟨t',rfl⟩:=d;exact a i j t t' s _ _ b ⟨.int (g i j),H,I.tok _,⟨_,rfl⟩,q⟩
theorem Ng{g:Int->Int->Int}
 (a: ∀(i j:Int) (t u:Tok) (s:Sx) (Q:Sw->Sx->Prop) (E:Sw->Sx->Prop),Q (.int (g i j) s.toks) {s with toks:=s.toks+1}->SL (model X.prog X.w) X.A (f (.int i t) (.int j u)) Q E s):
 kZ X f (EK λi j=>.int (g i j)):=by
 intro d s σ H x y v u Q I b c h;obtain⟨i,j,rfl,rfl,q⟩:=h;obtain⟨t,rfl⟩:=b;obtain⟨t',rfl⟩:=c;exact a i j t t' s _ _ ⟨.int (g i j),H,I.tok _,⟨_,rfl⟩,q⟩
theorem Lm{g:Int->Int->Bool}
 (a: ∀(i j:Int) (t u:Tok) (s:Sx) (Q:Sw->Sx->Prop) (E:Sw->Sx->Prop),Q (.bool (g i j)) s->SL (model X.prog X.w) X.A (f (.int i t) (.int j u)) Q E s):
 kZ X f (EK λi j=>.bl (g i j)):=by
 intro d s σ H x y v u Q I b c h;obtain⟨i,j,rfl,rfl,q⟩:=h;obtain⟨t,rfl⟩:=b;obtain⟨t',rfl⟩:=c;exact a i j t t' s _ _ ⟨.bl (g i j),H,I,rfl,q⟩
def Jw(i j:Int):Prop:=0<=j/\j<=1000000/\i.natAbs<2^64
theorem Gj:kZ X (Vt .Add) (EK λi j=>.int (i+j)):=Ng λ_ _ _ _ _ _ _ q=>add_int q
theorem L8:kZ X (Vt .Sub) (EK λi j=>.int (i-j)):=Ng λ_ _ _ _ _ _ _ q=>sub_int q
theorem Mf:kZ X (Vt .Mod) (rI (λ_ j=>0<j) λi j=>.int (i % j)):=Pw λi j _ _ _ _ _ a q=>by
 have b:(0:Int)<j:=a;exact mod_int' ⋯ (by rw[Int.fmod_eq_emod_of_nonneg i ⋯];exact q)
theorem Ny:kZ X (Vt .Pow) (rI Jw λi j=>.int (i^j.toNat)):=Pw λ_ _ _ _ _ _ _ a q=>pow_int_small a.1 a.2.1 a.2.2 q
theorem L6:kZ X (Vt .LShift) (rI Jw λi j=>.int (i*2^j.toNat)):=Pw λ_ _ _ _ _ _ _ a q=>lshift_int_small a.1 a.2.1 a.2.2 q
theorem NU:kZ X (Vt .BitXor) (EK λi j=>.int (ZX i j)):=Ng λ_ _ _ _ _ _ _ q=>xor_int q
theorem R6{g:Int->Int}
 (a: ∀(i:Int) (t:Tok) (s:Sx) (Q:Sw->Sx->Prop) (E:Sw->Sx->Prop),Q (.int (g i) s.toks) {s with toks:=s.toks+1}->SL (model X.prog X.w) X.A (f (.int i t)) Q E s):
 Rz X f (rU λi=>.int (g i)):=by
 intro c s σ H x v Q I b h;obtain⟨i,rfl,q⟩:=h;obtain⟨t,rfl⟩:=b;exact a i t s _ _ ⟨.int (g i),H,I.tok _,⟨_,rfl⟩,q⟩
theorem ME:Rz X (unaryOp .USub) (rU λi=>.int (-i)):=R6 λ_ _ _ _ _ q=>neg_int q
end
section
variable {X:Cx}{a b:Expr}
theorem ii:kZ X (U0 .Lt) (EK λi j=>.bl (Oo (i<j))):=Lm λ_ _ _ _ _ _ _ q=>lt_int q
theorem Ln:kZ X (U0 .LtE) (EK λi j=>.bl (Oo (i<=j))):=Lm λ_ _ _ _ _ _ _ q=>le_int q
theorem AV:kZ X (U0 .Gt) (EK λi j=>.bl (Oo (j<i))):=Lm λ_ _ _ _ _ _ _ q=>gt_int q
theorem Pc:kZ X (U0 .GtE) (EK λi j=>.bl (Oo (j<=i))):=Lm λ_ _ _ _ _ _ _ q=>ge_int q
theorem bm(b:Expr)(h:op≠ .In:=by decide)(d:op≠ .NotIn:=by decide):UV op b=false:=by
 have c:(op==CmpOp.In)=false:=by nofun
 have a:(op==CmpOp.NotIn)=false:=by nofun
 cases b<;>simp[UV,c,a]
theorem Kx(m:kZ X (U0 op) r)(k:PE X a ta)(d:PE X b tb)(i:UV op b=Pa):PE X (.Compare a [op] [b] pos) (N2 r ta tb):=by
 intro e s σ H Q I h;exact wpAny_Compare1 (NH k d I h λv u g x y f c j l q=>m e g σ f x y v u Q c j l q) i
def O4(t:TE):TT:=λσ H Q=>t σ H λx a=> ∃k,x=.bl k/\Q k a
theorem Jz(E:kZ X (U0 op) r)(D:PE X a ta)(l:PE X b tb)(A:UV op b=Pa):PT X (.Compare a [op] [b] pos) (O4 (N2 r ta tb)):=by
 intro d s σ H Q I h;refine ZI (bB (D d s σ H _ I h) λv j ⟨x,i,p,F,C⟩=>bB (l d j σ i _ p C) λu w ⟨y,n,g,B,m⟩=>
  bB (E d w σ n x y v u _ g F B m) λc G ⟨z,f,o,t,k,e,q⟩=>?_) A
 subst e;cases t;exact UD ⟨f,o,q⟩
def NB(K:SA)(x:V)(H:Hp)(k:Bool):Prop:=
 match x with
 | .non=>k=Pa
 | .bl b=>k=b
 | .int i=>k=(i !=0)
 | .str y=>y.length<=SU/\k=((y.length:Int) !=0)
 | .byt y=>y.size<=SU/\k=((y.size:Int) !=0)
 | .ref p=>(∃xs,SqL K H p xs/\k= !xs.isEmpty)\/(∃xs,SqT K H p xs/\k= !xs.isEmpty)\/ ∃kvs,H p=p5 (.dK kvs)/\k= !kvs.isEmpty
 |_=>False
theorem zt {κ:Type}{kvs:List (κ×V)}{vs:List (κ×Sw)}(r:KV kvs vs):(!vs.isEmpty)= !kvs.isEmpty:=by
 cases r<;>rfl
theorem oJ {xs:List V}{a:List Sw}(r:cc xs a):(!a.toArray.isEmpty)= !xs.isEmpty:=by
 cases r<;>simp
theorem jO:(SU:Nat)<2^63:=by simp[T8]
theorem MF:Ro X (λx H Q=> ∃k,NB X.K x H k/\Q k H):=by
 intro n s σ H x v Q I d h;obtain⟨k,e,q⟩:=h;have u:=jO;have o:SU=16777216:=T8;cases x with
 |non=>
  cases d;have a:k=false:=e;subst a;exact truthy_none ⟨H,I,q⟩
 |bl b=>
  cases d;have a:k=b:=e;subst a;exact UD ⟨H,I,q⟩
 |int i=>
  obtain⟨t,rfl⟩:=d;have a:k=(i !=0):=e;subst a;exact PySem.P.truthy_int ⟨H,I,q⟩
 |str y=>
  obtain⟨t,rfl⟩:=d;obtain⟨l,a⟩:y.length<=SU/\k=((y.length:Int) !=0):=e;subst a;exact PySem.P.truthy_str ⋯ ⟨H,I.tok _,q⟩
 |byt y=>
  obtain⟨t,rfl⟩:=d;obtain⟨l,a⟩:y.size<=SU/\k=((y.size:Int) !=0):=e;subst a;exact W.truthy_bytes ⋯ ⟨H,I.tok _,q⟩
 |ref p=>
  cases d;have a:(∃xs,SqL X.K H p xs/\k= !xs.isEmpty)\/(∃xs,SqT X.K H p xs/\k= !xs.isEmpty)\/ ∃kvs,H p=some (.dK kvs)/\k= !kvs.isEmpty:=e
  rcases a with⟨xs,f,a⟩|⟨xs,f,a⟩|⟨kvs,f,a⟩
  ·subst a;obtain⟨g,r,pl,hz⟩:=I.list f;have c:=r.length;exact wpAny_truthy_list pl.isList (by simp only[Ww];lia) ⟨H,I.tok _,by rw[oJ r];exact q⟩
  ·subst a;obtain⟨g,r,pl,hz⟩:=I.tuple f;have c:=r.length;exact truthy_tuple pl (by grind) ⟨H,I.tok _,by rw[oJ r];exact q⟩
  ·subst a;obtain⟨hz,j,vs,r,m⟩:kvs.length<=SU/\(p==UP)=false/\ ∃vs,KV kvs vs/\s.heap.DictOf (bR X.prog X.w) p vs:=I.hok p _ f
   have c:kvs.length=vs.length:=UF r;exact wpAny_truthy_dict j m (by omega) ⟨H,I.tok _,by rw[zt r];exact q⟩
 |_=>exact(show False from e).elim
theorem FR(j:PE X a ta)(l: ∀b,isTrue a X.env b=(do let v <-b;YG a.pos;WZ [v] (truthy v))):
 PT X a (λσ H Q=>ta σ H λx c=> ∃k,NB X.K x c k/\Q k c):=by
 intro d s σ H Q I h;exact isTrue_plain (bB (j d s σ H _ I h) λv f ⟨x,e,g,m,i⟩=>MF d f σ e x v Q g m i) (l _)
theorem eQ(r:cc [x] us): ∃u,us=[u]/\b6 x u:=by
 cases r with
 |cons b a=>cases a;exact⟨_,rfl,b⟩
theorem Lw(r:cc [x,y] us): ∃u a,us=[u,a]/\b6 x u/\b6 y a:=by
 cases r with
 |cons d b=>
  cases b with
  |cons e c=>cases c;exact⟨_,_,rfl,d,e⟩
theorem FD:cO X (.builtin "abs") (λxs H Q=> ∃i,xs=[.int i]/\Q (.int (if i<0 then -i else i)) H):=by
 intro a s σ H xs us Q I r h;obtain⟨i,rfl,q⟩:=h;obtain⟨u,rfl,t,rfl⟩:=eQ r;exact call_abs_int λu tk=>⟨.int (if i<0 then -i else i),H,I.tok _,⟨_,rfl⟩,q⟩
theorem Cn(b:X.calm=S1):cO X (.builtin "min") (λxs H Q=> ∃i j,xs=[.int i,.int j]/\Q (.int (if j<i then j else i)) H):=by
 intro c s σ H xs us Q I r h;obtain⟨i,j,rfl,q⟩:=h;obtain⟨u,d,rfl,⟨t,rfl⟩,⟨t',rfl⟩⟩:=Lw r;refine min_two_ints (I.ok.hd b) λh' tk k=>⟨_,H,I.kept k,?_,q⟩
 by_cases a:j<i
 ·rw[if_pos a,if_pos a];exact⟨_,rfl⟩
 ·rw[if_neg a,if_neg a];exact⟨_,rfl⟩
theorem jb:cO X (.type "int") (λxs H Q=>(∃i,xs=[.int i]/\Q (.int i) H)\/ ∃k,xs=[.bl k]/\Q (.int (if k then 1 else 0)) H):=by
 intro b s σ H xs us Q I r h;rcases h with⟨i,rfl,q⟩|⟨k,rfl,q⟩
 ·obtain⟨u,rfl,t,rfl⟩:=eQ r;exact call_int_int ⟨.int i,H,I,⟨_,rfl⟩,q⟩
 ·obtain⟨u,rfl,a⟩:=eQ r;cases a;exact call_int_bool ⟨.int (if k then 1 else 0),H,I.tok _,⟨_,rfl⟩,q⟩
end
theorem oa.some_of {v:V}{o:Option Sw}(r:oa (p5 v) o): ∃u,o=p5 u/\b6 v u:=by
 cases o with
 |none=>exact(show False from r).elim
 |some u=>exact⟨u,rfl,r⟩
structure fq(k:Nat)(A:Tr):Prop where
 hd:A.handled=Sr
 dp:A.depth+3*k+5<recursionLimit
 un:A.units+16*k+200<Tq
theorem fq.mono(r:fq k A)(h:j<=k):fq j A:=⟨r.hd,by have:=r.dp;omega,by have:=r.un;grind⟩
theorem fq.deeper{A:Tr}(r:fq (k+1) A)(a:Env):fq k (A.deeper a):=
 ⟨r.hd,by have:=r.dp;show A.depth+1+3*k+5<_;lia,by have:=r.un;show A.units+3+16*k+200<_;lia⟩
theorem fq.depth{A:Tr}(r:fq k A):A.depth<recursionLimit:=by have:=r.dp;lia
theorem fq.units{A:Tr}(r:fq k A):A.units+64<cLine:=by have:=r.un;lia
def OY:TA:=λ_ H Q=>Q [] H
def OU(d:TE)(a:TA):TA:=λσ H Q=>d σ H λx b=>a σ b λxs c=>Q (x::xs) c
section
variable {X:Cx}{t:TA}
theorem bW:PA X [] OY:=λ_ _ _ _ H Q I h=>YI ⟨[],H,I,.nil,h⟩
theorem bn(p:PE X e te)(m:PA X es t)(i:SF (e::es) X.env=(Pa,eval e X.env)::SF es X.env:=by rfl):PA X (e::es) (OU te t):=by
 intro a c s σ H Q I h;rw[i];show SL _ _ (spliced ((false,eval e X.env)::Ul a (SF es X.env))) _ _ s;refine Wc (bB (p c s σ H _ I h) λu g b=>?_);obtain⟨x,f,l,q,o⟩:=b;exact bB (m a c g σ f _ l o) λus r ⟨xs,k,d,n,j⟩=>⟨x::xs,k,d,.cons q n,j⟩
def QY(t:TA):TE:=λσ H Q=>t σ H λxs a=>xs.length<=SU/\ ∀p,a p=Sr->Q (.ref p) (aW a p (.tup xs))
def Qx(t:TA):TE:=λσ H Q=>t σ H λxs a=>xs.length<=SU/\ ∀p,a p=Sr->Q (.ref p) (aW a p (.lst xs))
theorem Fc {x1}(h:PA X es t):PE X (.Tuple es x1 pos) (QY t):=by
 intro f s σ H Q I g;refine wpAny_Tuple_spliced (bB (h pos f s σ H _ I g) λus a ⟨xs,c,d,r,z,q⟩=>⟨by rw[<-r.length];exact z,?_⟩);have i:c a.heap.objs.size=none:=d.hok.fresh (SB _);refine⟨.ref a.heap.objs.size,aW c a.heap.objs.size (.tup xs),d.laid (t':=a.toks) (λb u e=>Sy _ e) (SB _) ?_,rfl,q _ i⟩;exact⟨z,us,r,⟨_,SC _ rfl,rfl,_,rfl⟩,_,SC _ rfl,rfl⟩
theorem HC(h:PA X es t):PE X (.List es pos) (Qx t):=by
 intro f s σ H Q I g;refine wpAny_List_spliced (bB (h pos f s σ H _ I g) λus a ⟨xs,c,d,r,z,q⟩=>⟨by rw[<-r.length];exact z,?_⟩);have i:c a.heap.objs.size=none:=d.hok.fresh (SB _);refine⟨.ref a.heap.objs.size,aW c a.heap.objs.size (.lst xs),d.laid (t':=a.toks) (λb u e=>Sy _ e) (SB _) ?_,rfl,q _ i⟩;exact⟨z,us,0,r,SC _ rfl⟩
end
abbrev Sp:=List V->Hp->VK->XK->Prop
abbrev EE:=List Env->Hp->Sx->XK->Sw->Sx->Prop
structure u4(P:S9)(w:Tu)(K:SA)(mg:Str->Option Sw)(base:Heap)(A:Tr)(outer:List Env)(s:Sx)(H:Hp):Prop where
 frames:A.frames=p5 outer
 mod:Mod K mg base
 bs: ∀b o,base.get? b=p5 o->s.heap.get? b=p5 o/\H b=Sr
 bsz:base.objs.size<=s.heap.objs.size
 funs:s.heap.FunFrames base outer
 frf: ∀b∈frs outer,H b=Sr
 hok:HOk P w H s.heap
 bare:XH s.gens
def CE(a:List Env)(P:S9)(w:Tu)(H:Hp)(s:Sx)(Q:VK)(u:Sw)(s':Sx):Prop:=
 ∃v b,s'.os=s.os/\XH s'.gens/\Un (frs a) [] H b s.heap s'.heap/\HOk P w b s'.heap/\b6 v u/\Q v b
def CR(CX:EE)(a:List Env)(P:S9)(w:Tu)(H:Hp)(s:Sx)(Q:VK)(E:XK)(r:Zm)(s':Sx):Prop:=
 match r with
 | .ok (.ret u)=>CE a P w H s Q u s'
 | .ok _=>False
 | .error e=>CX a H s E e s'
structure j3(P:S9)(w:Tu)(K:SA)(mg:Str->Option Sw)(base:Heap)(CX:EE)(k:Nat)(f:Addr)(fd:Vu)(ps:List Str)(sp:Sp):Prop where
 len: ∀vs H Q E,sp vs H Q E->vs.length=ps.length
 run: ∀(A:Tr) (outer:List Env) (s:Sx) (H:Hp) (args:Args) (us:List Sw) (vs:List V) (Q:VK) (E:XK),fq k A->u4 P w K mg base A outer s H->jaW s fd args (ps.zip us)->cc vs us->sp vs H Q E->
  Vy (model P w) A (.call (.ref f) args) (CR CX outer P w H s Q E) s
theorem j3.imp{K:SA}{sp c:Sp}(F:j3 P w K mg base CX k f fd ps sp)
 (h: ∀vs H Q E,c vs H Q E->sp vs H Q E):j3 P w K mg base CX k f fd ps c:=
 ⟨λvs H Q E q=>F.len vs H Q E (h _ _ _ _ q),λA a s H b us vs Q E g i d hv e=>F.run A a s H b us vs Q E g i d hv (h _ _ _ _ e)⟩
section
variable {X:Cx}
theorem Inv.env0(I:Inv X aa σ H s):u4 X.prog X.w X.K X.mg X.base X.A X.stack s H:=
 ⟨I.ok.frames,I.ok.mod,I.bs,Tz I.ok.bsz I.sz,I.stack,I.stkFree,I.hok,I.bare⟩
theorem Inv.after(I:Inv X aa σ H s)(h:CE X.stack X.prog X.w H s Q u s'):EP X aa σ Q u s':=by
 obtain⟨v,i,os,a,j,c,r,q⟩:=h;obtain⟨f,g,d,t,e⟩:=s';obtain rfl:e=s.os:=os;exact⟨v,i,I.call (h':=f) (g':=g) (d':=d) (t':=t) (ch:=[]) j c a (λb z=>absurd z (by simp)),r,q⟩
end
def OH(sp:Sp)(a:List V)(E:XK)(t:TA):TE:=λσ H Q=>t σ H λvs b=>sp (vs++a) b Q E
def ni(K:SA)(b:Vu)(a:List Str)(ds:List Sw):Prop:=
 ∀(s:Sx) (us:List Sw),K.In s.heap->(us++ds).length=a.length->jaW s b ⟨us,[]⟩ (a.zip (us++ds))
theorem ni.all {K:SA}{a:List Str}(h: ∀us:List Sw,us.length=a.length->bindArgs fd ⟨us,[]⟩=pure (a.zip us)):ni K fd a []:=λs us _ b=>by
 rw[Uv] at b⊢;exact .of_eq (h us b)
def yY(CX:EE)(X:Cx)(E:XK):Prop:= ∀(a:List (Addr×Obj)) (σ:St) (H:Hp) (s:Sx) (e:Sw) (s':Sx),Inv X a σ H s->CX X.stack H s E e s'->X.xe e s'
section
variable {X:Cx}{sp:Sp}
theorem N0(F:j3 X.prog X.w X.K X.mg X.base CX k f fd ps sp)(l:fq k X.A)(d:ni X.K fd ps ds)(i:cc dvs ds)(c:yY CX X E)
 (I:Inv X aa σ H s) (r:cc vs us) (h:sp (vs++dvs) H Q E):SL (model X.prog X.w) X.A (call (.ref f) us) (EP X aa σ Q) X.xe s:=by
 have b:cc (vs++dvs) (us++ds):=r.append i;have g:(us++ds).length=ps.length:=by rw[<-b.length];exact F.len _ _ _ _ h
 refine jcP (Vo (F.run X.A X.stack s H ⟨us,[]⟩ (us++ds) (vs++dvs) Q E l I.env0 (d s us I.kIn g) b h) λr s' a=>?_);cases r with
 |error e=>exact c aa σ H s e s' I a
 |ok j=>
  cases j with
  |ret u=>exact I.after a
  |next=>exact False.elim a
  |brk=>exact False.elim a
  |cont=>exact False.elim a
theorem AB(F:j3 X.prog X.w X.K X.mg X.base CX k f fd ps sp)(l:fq k X.A)(i:Gl X x)(n:X.mg x=p5 (.ref f))(u:Yq X.K (.ref f)=S1)(d:ni X.K fd ps ds)(j:cc dvs ds)(m:yY CX X E)
 (o:PA X (e::es) t) (b:(x==("__debug__":Str))=false:=by decide) (v:SF (e::es) X.env=(Pa,eval e X.env)::SF es X.env:=by rfl) (a:(Ul pos (SF es X.env)).any (·.1)=false:=by rfl):
 PE X (.Call (.Name x p) (e::es) [] pos) (OH sp dvs E t):=by
 intro g s σ H Q I h;refine W5 (Le I i n ?_ b);refine W.callWith_K (h₀:=X.base) I.ok.mod.kin u (bB (o pos g s σ H _ I h) λus z ⟨vs,y,c,r,q⟩=>⟨c.kIn,?_⟩) v a;exact N0 F l d j m c r q
end
structure bg(N P:List Str)(sc:Vj):Prop where
 kind:sc.kind=.function
 co:sc.isCoroutine=Pa
 gen:sc.isGenerator=Pa
 nd:N.Nodup
 pre:N.take P.length=P
 par: ∀x∈P,sc.names.lookup x=p5 .local\/sc.names.lookup x=p5 .cell
 nofree: ∀y∈sc.names,y.2≠ .free
theorem sE {b:Str->Option Vk}: ∀ {a:List (Str×Sw)} {m:Str->Option Sw},(∀v,(x,v)∉a)->jcQ b a m x=m x
 | [],_,_=>rfl
 |(n,v)::r,m,h=>by
  unfold jcQ;rw[sE λw hw=>h w (SI _ hw)];split
  ·grind
  ·rfl
theorem tD {b:Str->Option Vk}: ∀ {a:List (Str×Sw)} {m:Str->Option Sw},(∀v,(x,v)∉a)->jcR b a m x=m x
 | [],_,_=>rfl
 |(n,v)::r,m,h=>by
  unfold jcR;rw[tD λw hw=>h w (SI _ hw)];split
  ·rfl
  grind
theorem rS {a:Str->Option Vk}: ∀ {P:List Str} {vs:List Sw} {i:Nat} {m:Str->Option Sw},P.Nodup->P[i]? =p5 x->vs[i]? =p5 v->a x=p5 .local->
 jcQ a (P.zip vs) m x=p5 v
 | [],_,_,_,_,h,_,_=>by simp at h
 |_::_,[],_,_,_,_,h,_=>by simp at h
 |p::P,w::vs,0,m,d,c,b,e=>by
  simp at c b;subst c;subst b;show jcQ a ((p,w)::P.zip vs) m p=_;unfold jcQ;rw[sE λv hv=>(T5.mp d).1 (ZB hv).1,if_pos e];simp
 |p::P,w::vs,i+1,m,d,c,b,e=>by
  show jcQ a ((p,w)::P.zip vs) m x=_;unfold jcQ;exact rS (i:=i) (T5.mp d).2 (by simpa using c) (by simpa using b) e
theorem tz {a:Str->Option Vk}: ∀ {P:List Str} {vs:List Sw} {i:Nat} {m:Str->Option Sw},P.Nodup->P[i]? =p5 x->vs[i]? =p5 v->a x≠p5 .local->
 jcR a (P.zip vs) m x=p5 v
 | [],_,_,_,_,h,_,_=>by simp at h
 |_::_,[],_,_,_,_,h,_=>by simp at h
 |p::P,w::vs,0,m,d,c,b,e=>by
  simp at c b;subst c;subst b;show jcR a ((p,w)::P.zip vs) m p=_;unfold jcR;rw[tD λv hv=>(T5.mp d).1 (ZB hv).1,if_neg e];simp
 |p::P,w::vs,i+1,m,d,c,b,e=>by
  show jcR a ((p,w)::P.zip vs) m x=_;unfold jcR;exact tz (i:=i) (T5.mp d).2 (by simpa using c) (by simpa using b) e
def start(N:List Str)(vs:List V):St:=vs.map p5++SN (N.length-vs.length) Sr
def qT(CX:EE)(P:S9)(w:Tu)(K:SA)(mg:Str->Option Sw)(base:Heap)(N:List Str)(a:Str)(scope:Vj)(f:Addr)(c:Sw)(A:Tr)(outer:List Env)(s:Sx)(H:Hp)(E:XK):Cx where
 prog:=P
 w:=w
 K:=K
 mg:=mg
 base:=base
 A:=A.deeper (XW a scope s.heap.objs.size f c)
 N:=N
 s₀:=s
 H₀:=H
 env:=XW a scope s.heap.objs.size f c
 outer:=outer
 stack:=XW a scope s.heap.objs.size f c::outer
 ex:=[]
 calm:=S1
 fn:=λ_=>S1
 pn:=[]
 xe:=λe s'=>SL (model P w) (A.deeper (XW a scope s.heap.objs.size f c)) (leaving (XW a scope s.heap.objs.size f c) e) (λ_ b=>CX outer H s E e b) (λd b=>CX outer H s E d b) s'
theorem wE {a:Vj}{n:Nat}(h:a.names.lookup x=p5 .cell): ∃c,(U1 n a.names []).lookup x=p5 c:=by
 have q:=jbA a.names n [] (.inl h);exact Option.isSome_iff_exists.mp q
theorem C9{K:SA}{N j:List Str}{scope:Vj}{A:Tr}{s B:Sx}{vs:List V}
 (S:bg N j scope) (G:A.handled=Sr) (a:u4 P w K mg base A outer s H) (O:vs.length=j.length) (r:cc vs us)
 (x:InCallC s s.heap.objs.size (jcQ (XW qual scope s.heap.objs.size f cd).kindOf (j.zip us) λ_=>Sr) (U1 (s.heap.objs.size+1) scope.names []) (jcR (XW qual scope s.heap.objs.size f cd).kindOf (j.zip us) λ_=>Sr) B):
 Inv (qT CX P w K mg base N qual scope f cd A outer s H E) [] (start N vs) H B:=by
 have F:j.length<=N.length:=by have:=congrArg Ua S.pre;grind[Y6]
 obtain⟨o,tk,rfl,D⟩:=x.done;have d: ∀b:Addr,b∉(qT CX P w K mg base N qual scope f cd A outer s H E).ex:=λb z=>absurd (show b∈([]:List Addr) from z) (by simp)
 refine⟨⟨a.mod,S.kind,rfl,rfl,SB _,λy z c o t=>?_,λy g=>?_,λy c _ h=>?_,λ_=>G,Around.frames_deeper a.frames,.inr ⟨rfl,rfl⟩,λb z=>absurd z (d b),a.bs,a.bsz,λb _ _=>d b,λb z=>absurd z (d b),a.funs,a.frf⟩,
  rfl,a.bare,Un.kept D,⟨_,x.toInCall.ns,λi y v o t M=>?_⟩,λy c h=>⟨_,x.cell y c h⟩,a.hok.fresh (SB _),λy c h=>?_,λp m=>absurd (show p∈([]:List (Addr×Obj)) from m) (by simp),a.hok.kept D,?_⟩
 ·exact name_of_addr x.apart (T0 o) (T0 t)
 ·have g:scope.names.lookup y=p5 .cell\/scope.names.lookup y=p5 .free:=g;rcases g with g|g
  ·exact wE g
  ·exact absurd rfl (S.nofree _ (T0 g))
 ·exact Va (x.above y c (T0 h))
 ·have L:i<vs.length:=by
   grind[start]
  have I:vs[i]? =p5 v:=by
   unfold start at t;grind
  obtain⟨u,C,J⟩:=r.get I;have m:j[i]? =p5 y:=by
   rw[<-S.pre,YT (by nofun)];exact o
  have l:j.Nodup:=by rw[<-S.pre];exact S.nd.sublist (jaO _ _)
  refine⟨u,J,?_⟩;rcases S.par y (Tj m) with k|k
  ·exact .inl ⟨k,rS l m C k⟩
  ·obtain⟨c,e⟩:=wE (n:=s.heap.objs.size+1) k;refine .inr ⟨.inl k,c,e,?_⟩;have q:=x.cell y c e;rw[tz l m C (by show scope.names.lookup y≠_;rw[k];decide)] at q;exact q
 ·exact a.hok.fresh (Va (x.above y c (T0 h)))
 ·unfold start;show _=N.length;rw[S5,SO,ZJ];nofun
theorem Of {CX:EE}{P:S9}{w:Tu}{K:SA}{mg:Str->Option Sw}{base:Heap}{k:Nat}{f:Addr}{name qual:Str}{params:Arguments}{body:List Stmt}{scope:Vj}{dV kV doc pm cdv ct oc:Sw}{an od:Option Addr}
 {osl:Array (Option Sw)} {N ps:List Str} {sp:Sp} (lk:K.lookup f=p5 ⟨oc,od,.func (Zn name qual params body scope dV kV doc pm an cdv ct),osl⟩) (hcd:jaX K cdv qual=S1) (S:bg N ps scope)
 (len: ∀vs H Q E,sp vs H Q E->vs.length=ps.length)
 (hbody: ∀(A:Tr) (outer:List Env) (s:Sx) (H:Hp) (vs:List V) (Q:VK) (E:XK),fq k (A.deeper (XW qual scope s.heap.objs.size f cdv))->sp vs H Q E->
   ∃t,PSs (qT CX P w K mg base N qual scope f cdv A outer s H E) body t/\t {nx:=λ_ H'=>Q .non H',rt:=Q} (start N vs) H):
 j3 P w K mg base CX (k+1) f (Zn name qual params body scope dV kV doc pm an cdv ct) ps sp:=by
 refine⟨len,λA outer s H args us vs Q E hr e0 hb r hsp=>?_⟩;have hl:=len _ _ _ _ hsp;have KX:K.In s.heap:=e0.mod.kin.keeps λb o e=>(e0.bs b o e).1
 have lim:s.heap.NoLimit:=e0.mod.nolimit.keeps λb o e=>(e0.bs b o e).1
 have hkind: ∀y∈ps.zip us,scope.names.lookup y.1=p5 .local\/(scope.names.lookup y.1=p5 .cell/\((U1 (s.heap.objs.size+1) scope.names []).lookup y.1).isSome=S1):=λ⟨n,v⟩ hy=>by
  rcases S.par n (ZB hy).1 with q|q
  ·exact .inl q
  ·exact .inr ⟨q,jbA _ _ _ (.inl q)⟩
 refine codeAny_call_function hr.depth (KX _ _ lk) rfl S.co S.gen rfl (W.codeRec_of KX hcd) (hb _ _ _ _ ?_);refine wpAny_newFunctionEnv_cells S.kind hkind λenv he s1 x=>?_
 subst he;refine⟨lim.keeps x.toInCall.keep,codeAny_func ?_⟩;obtain⟨t,ht,hq⟩:=hbody A outer s H vs Q E (hr.deeper _) hsp;have I:Inv (qT CX P w K mg base N qual scope f cdv A outer s H E) [] (start N vs) H s1:=C9 S hr.hd e0 hl r x;refine Tv (ht [] s1 (start N vs) H _ I hq) (λfl s' hs=>?_) λe s' hs=>hs
 have fin: ∀ {σ':St} {H':Hp} {v:V} {u:Sw},Inv (qT CX P w K mg base N qual scope f cdv A outer s H E) [] σ' H' s'->b6 v u->Q v H'->CE outer P w H s Q u s':=
  λ{σ' H' v u} J rv q=>⟨v,H',J.os,J.bare,J.base,J.hok,rv,q⟩
 cases fl with
 |ret u=>
  obtain⟨v,σ',H',J,rv,q⟩:=hs;exact fin J rv q
 |next=>
  obtain⟨σ',H',J,q⟩:=hs;exact fin (v:=V.non) (u:=Tn) J rfl q
 |brk=>
  obtain⟨_,_,_,q⟩:=hs;nofun
 |cont=>
  obtain⟨_,_,_,q⟩:=hs;nofun
section
variable {X:Cx}{t:TA}{id:String}{r:List V->Hp->VK->Prop}
def Qn(r:List V->Hp->VK->Prop)(t:TA):TE:=λσ H Q=>t σ H λvs a=>r vs a Q
theorem fS(l:cO X (.builtin id) r)(j:Gl X x)(m:X.mg x=Sr)(hv:T3 x=p5 (.builtin id))(o:PA X (e::es) t)(i:x≠"__name__":=by decide)(b:(x==("__debug__":Str))=false:=by decide)
 (q:SF (e::es) X.env=(Pa,eval e X.env)::SF es X.env:=by rfl) (a:(Ul pos (SF es X.env)).any (·.1)=false:=by rfl):PE X (.Call (.Name x p) (e::es) [] pos) (Qn r t):=by
 intro c s σ H Q I h;refine W5 (iR I j m hv ?_ i b);exact jbB (bB (o pos c s σ H _ I h) λus f ⟨vs,d,k,g,n⟩=>l c f σ d vs us Q k g n) q a
theorem fD(l:cO X (.type T) r)(j:Gl X x)(m:X.mg x=Sr)(hv:T3 x=p5 (.type T))(o:PA X (e::es) t)(i:x≠"__name__":=by decide)(b:(x==("__debug__":Str))=false:=by decide)
 (q:SF (e::es) X.env=(Pa,eval e X.env)::SF es X.env:=by rfl) (a:(Ul pos (SF es X.env)).any (·.1)=false:=by rfl):PE X (.Call (.Name x p) (e::es) [] pos) (Qn r t):=by
 intro c s σ H Q I h;refine W5 (iR I j m hv ?_ i b);exact UU (bB (o pos c s σ H _ I h) λus f ⟨vs,d,k,g,n⟩=>l c f σ d vs us Q k g n) q a
theorem zn(f:cO X (.type T) r)(e:Gl X x)(c:X.mg x=Sr)(hv:T3 x=p5 (.type T))(d:x≠"__name__":=by decide)(a:(x==("__debug__":Str))=false:=by decide):
 PE X (.Call (.Name x p) [] [] pos) (Qn r OY):=by
 intro b s σ H Q I h;refine W5 (iR I e c hv ?_ d a);exact jcx (f b s σ H [] [] Q I .nil h)
end
end
end Lake
namespace HT
noncomputable section
open PySem PyProof.Rows
section
theorem cat_tup{vs a:List Sw}(x:IsTup s.heap t vs.toArray)(u:IsTup s.heap b a.toArray)(hv:vs≠[])
 (v:a=[]->Q (.ref t) s) (r:a≠[]->Q (.ref s.heap.objs.size) {s with heap:=s.heap.push {cls:=.type "tuple",data:=.seq (vs++a).toArray}})
 (hsz:vs.length+a.length<=SU):SL (model prog w) A (Vt .Add (.ref t) (.ref b)) Q E s:=by
 obtain⟨⟨cls,m,data,k⟩,i,o,n,l⟩:=id x;obtain⟨⟨q,d,j,g⟩,c,f,p,h⟩:=id u;simp only at o l f h;subst o l f h;have e:vs.toArray++a.toArray=(vs++a).toArray:=by simp
 by_cases hw:a=[]
 ·exact concat_meets ⟨_,i,rfl⟩ ⟨_,c,rfl⟩ jbC seq_tuple_add Zo Y7 (YU _ _)
   (tuple_addW1 t b vs.toArray a.toArray n p m d k g (by simpa using hv) (by simp[hw])) ⟨i,c,v hw⟩
 ·refine concat_meets ⟨_,i,rfl⟩ ⟨_,c,rfl⟩ jbC seq_tuple_add Zo Y7 (YU _ _)
   (tuple_addW2 t b vs.toArray a.toArray n p m d k g (by simpa using hv) (by simpa using hw) (by omega)) ⟨i,c,?_⟩
  rw[e];exact r hw
def sIx(n d:Nat):Option Int->Nat
 |none=>d
 |some v=>if v<0 then(v+(n:Int)).toNat else min v.toNat n
theorem sIx_none(n d:Nat):sIx n d Sr=d:=rfl
theorem sIx_nat(n d k:Nat):sIx n d (p5 (k:Int))=min k n:=by
 rfl
end
end
end HT
namespace Lake
noncomputable section
open PySem PySem.Spec PyProof.Rows
abbrev TO:=St->Hp->(Option Int->Hp->Prop)->Prop
def PO(X:Cx)(e:Option Expr)(t:TO):Prop:=
 ∀(b:List (Addr×Obj)) (s:Sx) (σ:St) (H:Hp) (Q:Option Int->Hp->Prop),Inv X b σ H s->t σ H Q->
  SL (model X.prog X.w) X.A (evalPart e X.env) (λu s'=> ∃o a,Inv X b σ a s'/\IsPart u o/\Q o a) X.xe s
def KG:TO:=λ_ H Q=>Q Sr H
def ON(t:TE):TO:=λσ H Q=>t σ H λx a=> ∃i,x=.int i/\Q (p5 i) a
theorem zG {ns:List Int}: ∀ {us:List Sw},cc (ns.map V.int) us->jad us ns:=by
 induction ns with
 |nil=>intro us r;rw[jaY] at r;cases r;exact .nil
 |cons n ns b=>
  intro us r;rw[SD] at r;cases r with
  |cons c a=>
   obtain⟨t,e⟩:=c;subst e;exact .cons n t (b a)
section
variable {X:Cx}{e:Expr}{lo:Option Expr}{th:TO}
theorem JL:PO X Sr KG:=by
 intro a s σ H Q I h;rw[evalPart_none];exact Sv ⟨none,H,I,.none,h⟩
theorem Ke(h:PE X e te):PO X (p5 e) (ON te):=by
 intro c s σ H Q I hw;rw[evalPart_some];refine bB (h c s σ H _ I hw) λu j a=>?_
 obtain⟨x,b,d,g,f⟩:=a;obtain⟨i,rfl,q⟩:=f;obtain⟨t,rfl⟩:=g;exact⟨p5 i,b,d,.int i t,q⟩
def RS(X:Cx)(r:V->Option Int->Option Int->Hp->VK->Prop):Prop:=
 ∀(b:List (Addr×Obj)) (s:Sx) (σ:St) (H:Hp) (x:V) (v vl d:Sw) (e c:Option Int) (a:Addr) (Q:VK),Inv X b σ H s->b6 x v->s.heap.IsSliceOf a vl d .none->IsPart vl e->IsPart d c->r x e c H Q->
  ∃T id,typeLookup (.type T) "__getitem__"=pure (p5 (.builtin id))/\s.TypeIs v T/\SL (model X.prog X.w) X.A (jae v (.ref a)) (EP X b σ Q) X.xe s
def Si(r:V->Option Int->Option Int->Hp->VK->Prop)(d:TE)(c th:TO):TE:=λσ H Q=>d σ H λx b=>c σ b λl e=>th σ e λu a=>r x l u a Q
theorem Gn(z:RS X r)(K:PE X e te)(E:PO X lo tl)(J:PO X hi th):PE X (.Subscript e (.Slice lo hi Sr p2) pos) (Si r te tl th):=by
 intro d s σ H Q I h;refine jcT (bB (K d s σ H _ I h) λv k c=>?_);obtain⟨x,j,y,L,F⟩:=c;refine wpAny_Slice (bB (E d k σ j _ y F) λvl C ⟨l,p,i,pl,n⟩=>bB (J d C σ p _ i n) λf a c=>?_);obtain⟨u,g,t,pu,B⟩:=c;rw[evalPart_none];refine Sv ?_
 have m:Inv X d σ g {a with heap:=a.heap.push {cls:=.type "slice",data:=.fields #[vl,f,.none]}}:=t.kept (t':=a.toks) λb ob q=>Sy _ q
 obtain⟨T,id,D,G,o⟩:=z d {a with heap:=a.heap.push {cls:=.type "slice",data:=.fields #[vl,f,.none]}} σ g x v vl f l u a.heap.objs.size Q m L (jhA ..) pl pu B;show SL (model X.prog X.w) X.A (jao e (.Slice lo hi Sr p2) v (.ref a.heap.objs.size)) (EP X d σ Q) X.xe {a with heap:=a.heap.push {cls:=.type "slice",data:=.fields #[vl,f,.none]}};exact tail_any (ops:=[.ref a.heap.objs.size,v]) G D o (by rfl)
def CF(xs:List V)(a b:Option Int):List V:=(xs.drop (HT.sIx xs.length 0 a)).take (HT.sIx xs.length xs.length b-HT.sIx xs.length 0 a)
theorem wu(xs:List V)(b a:Option Int):(CF xs b a).length<=xs.length:=by
 unfold CF;grind
def OP(K:SA):R2:=λx y H Q=> ∃a b xs ys,x=.ref a/\y=.ref b/\SqT K H a xs/\SqT K H b ys/\xs≠[]/\xs.length+ys.length<=SU/\
 (ys=[]->Q (.ref a) H)/\(ys≠[]-> ∀p,H p=Sr->Q (.ref p) (aW H p (.tup (xs++ys))))
theorem cc.nil_iff(r:cc xs us):us=[]↔xs=[]:=by
 cases r with
 |nil=>simp
 |cons _ _=>simp
theorem Ju:kZ X (Vt .Add) (OP X.K):=by
 intro t s σ H x y v u Q I m r h;obtain⟨a,b,xs,ys,rfl,rfl,p,f,i,hz,l,g⟩:=h;cases m;cases r;obtain⟨j,d,n,_⟩:=I.tuple p;obtain⟨e,c,k,_⟩:=I.tuple f;refine HT.cat_tup n k (λz=>i (d.nil_iff.mp z)) (λz=>⟨.ref a,H,I,rfl,l (c.nil_iff.mp z)⟩) (λz=>?_) (by rw[<-d.length,<-c.length];exact hz);refine⟨.ref s.heap.objs.size,_,I.laid (t':=s.toks) (o:=.tup (xs++ys)) (λb ob q=>Sy _ q) (SB _) ?_,rfl,g (λw=>z (c.nil_iff.mpr w)) _ (I.hok.fresh (SB _))⟩;exact⟨by nofun,_,d.append c,jex _ _,_,SC _ rfl,rfl⟩
end
def vW(n:Nat)(i:Int):Option Nat:=if 0<=i then(if i<n then p5 i.toNat else Sr) else if -(n:Int)<=i then p5 (i+n).toNat else Sr
def qH {α:Type}(xs:List α)(i:Int):Option α:=(vW xs.length i).bind λj=>xs[j]?
theorem uC(h:vW n i=p5 j):seqIndex? i n=p5 j/\j<n/\ -(n:Int)<=i/\i<n:=by
 unfold vW at h
 by_cases b:0<=i
 ·rw[if_pos b] at h
  by_cases a:i<n
  ·rw[if_pos a] at h;have e:i.toNat=j:=XT h;exact⟨by rw[jbW b a,e],by grind,⋯,a⟩
  nofun
 ·rw[if_neg b] at h
  by_cases a: -(n:Int)<=i
  ·rw[if_pos a] at h;grind[jaZ]
  nofun
theorem ul {α:Type}{xs:List α}{i:Int}{v:α}(h:qH xs i=p5 v): ∃j,seqIndex? i xs.length=p5 j/\xs[j]? =p5 v/\j<xs.length/\ -(xs.length:Int)<=i/\i<xs.length:=by
 unfold qH at h;cases e:vW xs.length i with
 |none=>nofun
 |some j=>
  rw[e] at h;obtain⟨b,a,c,d⟩:=uC e;exact⟨j,b,h,a,c,d⟩
theorem Kw {α:Type}{xs:List α}{j:Nat}{v:α}(h:xs[j]? =p5 v):qH xs (j:Int)=p5 v:=by
 have a:j<xs.length:=(SK.mp h).1;have e:vW xs.length (j:Int)=p5 j:=by
  unfold vW;rw[if_pos (by simp),if_pos (by nofun)];simp
 unfold qH;rw[e];exact h
def Bn(b:Expr):Prop:= ∀o i,ZY b Pa o i=operate [o,i] (jae o i)
def IxR(X:Cx)(r:R2):Prop:=
 ∀(b a:Expr) (c:List (Addr×Obj)) (s:Sx) (σ:St) (H:Hp) (x y:V) (v u:Sw) (Q:VK),Inv X c σ H s->b6 x v->b6 y u->r x y H Q->
  ZY a Pa v u=operate [v,u] (jae v u)->SL (model X.prog X.w) X.A (jao b a v u) (EP X c σ Q) X.xe s
def Oa(X:Cx)(id:String)(r:V->List V->Hp->VK->Prop):Prop:=
 ∀(a:List (Addr×Obj)) (s:Sx) (σ:St) (H:Hp) (x:V) (xs:List V) (v:Sw) (us:List Sw) (Q:VK),Inv X a σ H s->b6 x v->cc xs us->r x xs H Q->
  SL (model X.prog X.w) X.A (call (.builtin id) (v::us)) (EP X a σ Q) X.xe s
section
variable {X:Cx}{a b:Expr}
theorem IxR.or(h:IxR X r)(h':IxR X r'):IxR X (λx y H Q=>r x y H Q\/r' x y H Q):=by
 intro b a c s σ H x y v u Q I e f q d;rcases q with q|q
 ·exact h b a c s σ H x y v u Q I e f q d
 ·exact h' b a c s σ H x y v u Q I e f q d
theorem O3(i:IxR X r)(l:PE X a ta)(d:PE X b tb)(e:Bn b):PE X (.Subscript a b pos) (N2 r ta tb):=by
 intro f s σ H Q I h;exact jcT (NH l d I h λv u j x y g c k m q=>i a b f j σ g x y v u Q c k m q (e _ _))
def Ps(K:SA):R2:=λx y H Q=> ∃p xs i v,x=.ref p/\y=.int i/\SqL K H p xs/\qH xs i=p5 v/\Q v H
def Og(K:SA):R2:=λx y H Q=> ∃p xs i v,x=.ref p/\y=.int i/\SqT K H p xs/\qH xs i=p5 v/\Q v H
def Op:R2:=λx y H Q=> ∃z i c,x=.str z/\y=.int i/\z.length<=SU/\qH z.cps.toList i=p5 c/\Q (.str ⟨#[c]⟩) H
theorem u5:IxR X (Ps X.K):=by
 intro e b g s σ H x y v u Q I B C h k;obtain⟨p,xs,i,z,rfl,rfl,o,D,q⟩:=h;cases B;obtain⟨t,rfl⟩:=C;obtain⟨d,r,pl,hz⟩:=I.list o;obtain⟨j,a,n,G,E,A⟩:=ul D;obtain⟨w,l,f⟩:=r.get n;have J:=r.length;have F:=jO;have fin:EP X g σ Q w s:=⟨z,H,I,f,q⟩
 by_cases m:0<=i
 ·have c:i.toNat=j:=by
   rw[jbW m A] at a;exact XT a
  exact item_listR pl.isList m (by grind) (by rw[c];simpa using l) fin k
 ·have c:(i+(d.toArray.size:Int)).toNat=j:=by
   rw[jaZ (by nofun) E] at a;nofun
  exact Zp (x:=w) pl.isList.typeIs jba.lookup
   (wpAny_getItem_list_neg (Q:=λr s'=>r=w/\EP X g σ Q r s') pl.isList (by nofun) (by nofun) ⋯ (by rw[c];simpa using l) ⟨rfl,fin⟩) k
theorem u7:IxR X (Og X.K):=by
 intro b a d s σ H x y v u Q I m n h f;obtain⟨p,xs,i,z,rfl,rfl,k,o,q⟩:=h;cases m;obtain⟨t,rfl⟩:=n;obtain⟨l,r,pl,hz⟩:=I.tuple k;obtain⟨j,A,e,C,F,D⟩:=ul o;obtain⟨w,g,c⟩:=r.get e;have E:=r.length;have B:=jO;have fin:EP X d σ Q w s:=⟨z,H,I,c,q⟩
 exact Zp (x:=w) pl.typeIs slot_tuple_getitem.lookup
  (getItem_tuple (j:=j) (Q:=λr s'=>r=w/\EP X d σ Q r s') pl ⋯ ⋯ (by nofun) (by simpa using g) ⟨rfl,fin⟩) f
theorem M9:IxR X Op:=by
 intro b a p s σ H x y v u Q I l m h f;obtain⟨z,i,c,rfl,rfl,hz,n,q⟩:=h;obtain⟨t,rfl⟩:=l;obtain⟨t',rfl⟩:=m;obtain⟨j,d,e,w,o,g⟩:=ul n;have k:z.cps.toList.length=z.length:=by rfl
 rw[k] at d o g;have r:=jO
 exact tail_any (typeIs_str s z t) slot_str_getitem.lookup (getItem_str (c:=c) (by
  lia) (by rw[d];simpa using e) ⟨.str ⟨#[c]⟩,H,I.tok _,⟨_,rfl⟩,q⟩) f
def RZ(K:SA):R2:=λx y H Q=>Ps K x y H Q\/Og K x y H Q\/Op x y H Q
theorem aD:IxR X (RZ X.K):=u5.or (u7.or M9)
theorem yt(a:List Sw)(n j:Nat)(u:Sw):Vv (·.setIfInBounds j u) {cls:=.type "list",data:=.seq a.toArray n}={cls:=.type "list",data:=.seq (a.set j u).toArray n}:=by
 simp[Vv]
theorem Inv.lst{H:Hp}{s:Sx}{xs:List V}(I:Inv X aa σ H s)(h:H p=p5 (.lst xs)):
 ∃(a:List Sw) (n:Nat),cc xs a/\s.heap.get? p=p5 {cls:=.type "list",data:=.seq a.toArray n}/\xs.length<=sizeLine:=by
 obtain⟨z,a,n,r,e⟩:=I.hok p _ h;exact⟨a,n,r,e,z⟩
theorem Inv.lstUpd{s:Sx}{xs ys:List V}{a its':List Sw}(I:Inv X aa σ H s)(h:H p=p5 (.lst xs))
 (d:s.heap.get? p=p5 {cls:=.type "list",data:=.seq a.toArray n}) (c:f {cls:=.type "list",data:=.seq a.toArray n}={cls:=.type "list",data:=.seq its'.toArray n'}) (r:cc ys its') (hz:ys.length<=SU) (t:Nat):
 Inv X aa σ (aW H p (.lst ys)) {s with heap:=s.heap.update p f,toks:=t}:=by
 have e:(s.heap.update p f).get? p=p5 {cls:=.type "list",data:=.seq its'.toArray n'}:=by
  rw[Ts f d (by rw[c]<;>rfl),c]
 refine I.write (x:=p) (e:=p) (by rw[h];trivial) (.inl rfl) (λb u g q=>(Uy _ _ (To g)).trans q) ⟨_,e⟩ ?_
 exact⟨hz,its',n',r,e⟩
def Ox:V->V->V->Hp->(Hp->Prop)->Prop:=λo i v H Q=> ∃p xs k j,o=.ref p/\i=.int k/\H p=p5 (.lst xs)/\vW xs.length k=p5 j/\Q (aW H p (.lst (xs.set j v)))
theorem HF:Px X Ox:=by
 intro d s σ H o i v ov A u Q I w l y h;obtain⟨p,xs,k,j,rfl,rfl,b,g,q⟩:=h;cases w;obtain⟨t,rfl⟩:=l;obtain⟨a,n,r,c,hz⟩:=I.lst b;obtain⟨e,z,f,E⟩:=uC g;have D:=r.length;have B:=jO;have m:Inv X d σ (aW H p (.lst (xs.set j v))) {s with heap:=s.heap.update p (Vv (·.setIfInBounds j u))}:=
  I.lstUpd b c (yt a n j u) (r.set y j) (by nofun) s.toks
 by_cases C:0<=k
 ·grind[jbW,W.ki_setAt]
 ·have x:(k+(a.toArray.size:Int)).toNat=j:=by
   rw[jaZ (by nofun) f] at e;nofun
  exact W.ki_setBack c (by nofun) (by nofun) (by grind) (by rw[x];exact⟨_,m,q⟩)
theorem vf(b a:Option Int)(n:Nat):(jbX b a Sr n).1=((HT.sIx n 0 b:Nat):Int)/\(jbX b a Sr n).2.1=((HT.sIx n n a:Nat):Int)/\(jbX b a Sr n).2.2=1:=by
 have k: ∀i:Int,max 0 (min (if i<0 then i+n else i) (n:Int))=((if i<0 then(i+n).toNat else min i.toNat n:Nat):Int):=λi=>by split<;>omega
 refine⟨?_,?_,rfl⟩
 ·cases b with
  |none=>rfl
  |some i=>exact k i
 ·cases a with
  |none=>rfl
  |some i=>exact k i
theorem qL(a:List Sw)(b c:Option Int):slicePick a.toArray b c Sr=((a.drop (HT.sIx a.length 0 b)).take (HT.sIx a.length a.length c-HT.sIx a.length 0 b)).toArray:=by
 obtain⟨e,d,f⟩:=vf b c a.toArray.size;unfold slicePick;rw[e,d,f];simp only[sliceRange_one,pick_run,Ww]<;>rfl
def QT(K:SA):V->Option Int->Option Int->Hp->VK->Prop:=λx c b H Q=> ∃a xs,x=.ref a/\SqL K H a xs/\ ∀p,H p=Sr->Q (.ref p) (aW H p (.lst (CF xs c b)))
theorem II:RS X (QT X.K):=by
 intro m s σ H x v vl n d e l Q I k g pl pu h;obtain⟨a,xs,rfl,i,q⟩:=h;cases k;obtain⟨j,r,f,hz⟩:=I.list i;have c:=r.length;refine⟨"list",_,jba.lookup,f.isList.typeIs,?_⟩;refine wpAny_getItem_list_slice f.isList g pl pu .none (by simp) ?_ (by nofun)
 rw[qL,<-c];refine⟨.ref s.heap.objs.size,_,I.laid (t':=s.toks) (o:=.lst (CF xs d e)) (λb ob q=>Sy _ q) (SB _) ?_,rfl,q _ (I.hok.fresh (SB _))⟩;exact⟨Tz (wu xs d e) hz,_,0,(r.drop (HT.sIx xs.length 0 d)).take (HT.sIx xs.length xs.length e-HT.sIx xs.length 0 d),SC _ rfl⟩
theorem aG:cO X (.builtin "len") (λxs H Q=> ∃p ys,xs=[.ref p]/\(SqL X.K H p ys\/SqT X.K H p ys)/\Q (.int ys.length) H):=by
 intro f s σ H xs us Q I r h;obtain⟨p,ys,rfl,a,q⟩:=h;obtain⟨u,rfl,e⟩:=eQ r;cases e;have g:=jO;rcases a with a|a
 ·obtain⟨d,c,pl,hz⟩:=I.list a;have b:=c.length;exact Calls.call_len_list pl.isList (by grind) ⟨.int ys.length,H,I.tok _,⟨s.toks+1,by nofun⟩,q⟩
 ·obtain⟨d,c,pl,hz⟩:=I.tuple a;have b:=c.length;exact len_tuple pl (by simp only[Ww]<;>omega) ⟨.int ys.length,H,I.tok _,⟨s.toks+1,by nofun⟩,q⟩
theorem lR:cO X (.type "list") (λxs H Q=> ∃p ys,xs=[.ref p]/\(SqL X.K H p ys\/SqT X.K H p ys)/\ ∀l,H l=Sr->Q (.ref l) (aW H l (.lst ys))):=by
 intro t s σ H xs us Q I r h;obtain⟨p,ys,rfl,f,q⟩:=h;obtain⟨u,rfl,v⟩:=eQ r;cases v;have fin: ∀(a:List Sw),cc ys a->ys.length<=SU-> ∀(h':Heap) (c:Nat),(∀b o',s.heap.get? b=some o'->h'.get? b=some o')->
  h'.get? s.heap.objs.size=p5 {cls:=.type "list",dict:=Sr,data:=.seq a.toArray c,slots:= #[]}->EP X t σ Q (.ref s.heap.objs.size) {s with heap:=h'}:=λa d hz h' c i e=>
  ⟨.ref s.heap.objs.size,_,I.laid (t':=s.toks) i (SB _) (show ci X.prog X.w _ h' _ (.lst ys) from⟨hz,a,c,d,e⟩),rfl,q _ (I.hok.fresh (SB _))⟩
 rcases f with f|f
 ·obtain⟨a,d,pl,hz⟩:=I.list f;have g:=d.length;obtain⟨o,m,k,n,j⟩:=pl.isList;exact call_list_seq p (.inl rfl) m k j (λh' c i e=>fin a d hz h' c i e) (by nofun)
 ·obtain⟨a,d,pl,hz⟩:=I.tuple f;have g:=d.length;obtain⟨o,m,k,n,j⟩:=pl;exact call_list_seq p (.inr rfl) m k j (λh' c i e=>fin a d hz h' c i e) (by nofun)
theorem cE:cO X (.type "tuple") (λxs H Q=> ∃p ys,xs=[.ref p]/\((SqL X.K H p ys/\ ∀l,H l=Sr->Q (.ref l) (aW H l (.tup ys)))\/(SqT X.K H p ys/\Q (.ref p) H))):=by
 intro f s σ H xs us Q I r h;obtain⟨p,ys,rfl,h⟩:=h;obtain⟨u,rfl,k⟩:=eQ r;cases k;rcases h with⟨c,q⟩|⟨c,q⟩
 ·obtain⟨a,d,pl,hz⟩:=I.list c;have i:=d.length;refine call_tuple_list pl.isList (λh' m=>?_) (by nofun);have g:Inv X f σ H {s with heap:=h'}:=I.kept (t':=s.toks) m;have j:Inv X f σ (aW H h'.objs.size (.tup ys)) {s with heap:=h'.push {cls:=.type "tuple",data:=.seq a.toArray}}:=
   g.laid (t':=s.toks) (λb o e=>Sy _ e) (SB _) (show ci X.prog X.w _ _ _ (.tup ys) from⟨hz,a,d,jex _ _,_,SC _ rfl,rfl⟩)
  exact⟨.ref h'.objs.size,_,j,rfl,q _ (g.hok.fresh (SB _))⟩
 ·obtain⟨a,d,pl,hz⟩:=I.tuple c;exact call_tuple_same pl ⟨.ref p,H,I,rfl,q⟩
def Qp(K:SA)(T:String)(x:V)(H:Hp):Prop:=match x with
 | .str _=>T="str"
 | .int _=>T="int"
 | .ref p=>(T="list"/\ ∃xs,SqL K H p xs)\/(T="tuple"/\ ∃xs,SqT K H p xs)\/
    (T="dict"/\((∃kvs,H p=p5 (.dK kvs))\/ ∃kvs,H p=p5 (.dT kvs)))\/(T="set"/\ ∃S n,H p=p5 (.set S n))\/(T="set"/\ ∃xs,H p=p5 (.tst xs))
 |_=>False
theorem yB{s:Sx}(I:Inv X aa σ H s)(r:b6 x v)(ty:Qp X.K T x H):
 s.TypeIs v T/\ ∀a,v=.ref a-> ∃ob,s.heap.get? a=p5 ob/\ob.dict=none:=by
 cases x with
 |str z=>
  obtain⟨t,rfl⟩:=r;cases (show T="str" from ty);simp[typeIs_str]
 |int i=>
  obtain⟨t,rfl⟩:=r;cases (show T="int" from ty);simp[typeIs_int]
 |ref p=>
  cases r;rcases ty with⟨rfl,xs,g⟩|⟨rfl,xs,g⟩|⟨rfl,d⟩|⟨rfl,S,n,d⟩|⟨rfl,xs,d⟩
  ·obtain⟨m,_,pl,_⟩:=I.list g;refine⟨pl.isList.typeIs,λa e=>?_⟩;cases e;obtain⟨o,n,e,c,h,_⟩:=pl;exact⟨o,e,h⟩
  ·obtain⟨⟨ob,q,k⟩,l,j,h⟩:=I.tupleN g;refine⟨⟨ob,q,k⟩,λa e=>?_⟩;cases e;exact⟨l,j,h⟩
  ·have z: ∃o,s.heap.get? p=p5 o/\o.ExactDict:=by
    rcases d with⟨kvs,d⟩|⟨kvs,d⟩
    ·obtain⟨_,_,_,_,o,_,_,e,b,_⟩:=I.hok p _ d;exact⟨o,e,b⟩
    ·obtain⟨_,_,_,_,o,_,_,e,b,_⟩:=I.hok p _ d;exact⟨o,e,b⟩
   obtain⟨o,e,b⟩:=z;refine⟨⟨o,e,b.1⟩,λa f=>?_⟩;cases f;exact⟨o,e,b.2.1⟩
  ·obtain⟨o,_,_,_,e,b,_⟩:=I.hok p _ d;refine⟨⟨o,e,b.1⟩,λa f=>?_⟩;cases f;exact⟨o,e,b.2.1⟩
  ·obtain⟨o,_,_,_,e,b⟩:=I.hok p _ d;refine⟨⟨o,e,b.ex.1⟩,λa f=>?_⟩;cases f;exact⟨o,e,b.ex.2.1⟩
 |_=>exact False.elim ty
def Rg(K:SA)(T:String)(r:V->List V->Hp->VK->Prop)(to:TE):TE:=λσ H Q=>to σ H λx a=>Qp K T x a/\r x [] a Q
def Sa(K:SA)(T:String)(r:V->List V->Hp->VK->Prop)(to:TE)(t:TA):TE:=λσ H Q=>to σ H λx a=>Qp K T x a/\t σ a λxs b=>r x xs b Q
variable {apos cpos:Pos}{id:String}
theorem Fq(p:PlainAttrs T)(c:Slot T name id)(d:jcU (.builtin id)=pure (.type "method_descriptor"))(m:Oa X id r)(t:PE X o to)
 (b:UG o name X.env (eval o X.env)=eval o X.env:=by rfl) (a:(apos.endLine==cpos.line)=true:=by rfl):PE X (.Call (.Attribute o name apos) [] [] cpos) (Rg X.K T r to):=by
 intro f s σ H Q I h;refine wpAny_Call_method0_late b a (bB (t f s σ H _ I h) λv k e=>?_);obtain⟨x,j,g,i,ty,q⟩:=e;obtain⟨n,l⟩:=yB g i ty;exact⟨T,id,p,c,d,n,l,Vp rfl (PySem.evalArgs_none (m f k σ j x [] v [] Q g i .nil q))⟩
theorem xJ(D:PlainAttrs T)(f:Slot T name id)(i:jcU (.builtin id)=pure (.type "method_descriptor"))(z:Oa X id r)(J:PE X o to)(G:PA X (e::es) t)
 (c:UG o name X.env (eval o X.env)=eval o X.env:=by rfl)
 (d:((Ul cpos (SF (e::es) X.env)).all (λx=> !x.1)&&(XO cpos (V7 [] X.env)).all (λx=>x.1.isSome)
   &&Oo ((e::es).length+([]:List VI).length+(if([]:List VI).isEmpty then 0 else 1)<30))=true:=by rfl)
 (b:(apos.endLine==cpos.line)=true:=by rfl) (y:SF (e::es) X.env=(Pa,eval e X.env)::SF es X.env:=by rfl) (a:(Ul cpos (SF es X.env)).any (·.1)=false:=by rfl):
 PE X (.Call (.Attribute o name apos) (e::es) [] cpos) (Sa X.K T r to t):=by
 intro g s σ H Q I h;refine Zq c d b rfl (bB (J g s σ H _ I h) λv q j=>?_);obtain⟨x,p,k,m,ty,E⟩:=j;obtain⟨A,u⟩:=yB k m ty;refine⟨T,id,D,f,i,A,u,?_⟩;have l:=G cpos g q σ p _ k E;rw[y] at l⊢;refine Vp (by show(Pa||(Ul cpos (SF es X.env)).any (·.1))=Pa;rw[a]<;>rfl) (WC ?_);exact bB l λus w ⟨vs,F,n,B,C⟩=>z g w σ F x vs v us Q n m B C
end
def Lh(X:Cx)(id:String)(r:V->List V->Hp->VK->Prop):Prop:=
 ∀(a:List (Addr×Obj)) (s:Sx) (σ:St) (H:Hp) (x:V) (xs:List V) (v:Sw) (us:List Sw) (Q:VK),Inv X a σ H s->b6 x v->cc xs us->r x xs H Q->
  SL (model X.prog X.w) X.A (call (.builtin id) (v::us)) (EP X a σ Q) X.xe s
theorem cc.one: ∀ {x:V} {us:List Sw},cc [x] us-> ∃u,us=[u]/\b6 x u
 |_,_,.cons r .nil=>⟨_,rfl,r⟩
theorem cc.zero: ∀ {us:List Sw},cc [] us->us=[]
 |_,.nil=>rfl
theorem cc.eraseIdx: ∀ {xs:List V} {us:List Sw} (i:Nat),cc xs us->cc (xs.eraseIdx i) (us.eraseIdx i)
 |_,_,_,.nil=>.nil
 |_,_,0,.cons _ t=>t
 |_,_,i+1,.cons r t=>.cons r (cc.eraseIdx i t)
theorem l4 {α:Type}: ∀(l:List α) (i:Nat),(l.eraseIdx i).length<=l.length
 | [],_=>SB _
 |_::_,0=>W9 _
 |_::r,i+1=>Nat.succ_le_succ (l4 r i)
section
variable {H:Hp}{s:Sx}{xs ys:List V}
theorem Inv.lset {a its':List Sw}{t':Nat}(I:Inv X aa σ H s)(b:H l=p5 (.lst xs))
 (e:s.heap.get? l=p5 {cls:=.type "list",data:=.seq a.toArray n}) (g:f a.toArray=its'.toArray) (hv:cc ys its') (hz:ys.length<=SU):
 Inv X aa σ (aW H l (.lst ys)) {s with heap:=s.heap.update l (Vv f),toks:=t'}:=by
 have q:=PySem.IsL.update e f;rw[g] at q;refine I.write (x:=l) (e:=l) (by rw[b];exact trivial) (.inl rfl) (λb' u d c=>(Uy s.heap (Vv f) (To d)).trans c) ⟨_,q⟩ ?_
 exact⟨hz,its',_,hv,q⟩
theorem Inv.lstM(I:Inv X aa σ H s)(b:H l=p5 (.lst xs)):xs.length<=SU/\ ∃(a:List Sw) (n:Nat),cc xs a/\xs.length=a.length/\s.heap.get? l=p5 {cls:=.type "list",data:=.seq a.toArray n}:=by
 obtain⟨z,a,n,r,e⟩:=I.hok l _ b;exact⟨z,a,n,r,r.length,e⟩
theorem Hi(h:n<=SU):WU n=false:=by
 grind[WU]
end
section
def Bl:V->List V->Hp->VK->Prop:=λx vs H Q=> ∃l xs y,x=.ref l/\vs=[y]/\H l=p5 (.lst xs)/\xs.length<SU/\Q .non (aW H l (.lst (xs++[y])))
theorem dL:Lh X "list.append" Bl:=by
 intro g s σ H x vs v us Q I d f h;obtain⟨l,xs,y,rfl,rfl,b,hz,q⟩:=h;cases d;obtain⟨u,rfl,c⟩:=f.one;obtain⟨z,a,n,r,i,e⟩:=I.lstM b;refine Yr UH ⟨_,e,rfl⟩ F.entry_list_append (F.args_list_append_2 _ _) (PySem.list_append l a.toArray n u (by nofun)) ⟨e,?_⟩;refine⟨.non,_,I.lset (its':=a++[u]) b e (by simp) (r.append (.cons c .nil)) ?_,rfl,q⟩;rw[S5,UE];grind
def Li:V->List V->Hp->VK->Prop:=λx vs H Q=> ∃l b xs zs,x=.ref l/\vs=[.ref b]/\H l=p5 (.lst xs)/\H b=p5 (.lst zs)/\xs.length+zs.length<=SU/\Q .non (aW H l (.lst (xs++zs)))
theorem CU:Lh X "list.extend" Li:=by
 intro w s σ H x vs v us Q I p t h;obtain⟨l,b,xs,zs,rfl,rfl,f,j,hz,q⟩:=h;cases p;obtain⟨u,rfl,k⟩:=t.one;cases k;obtain⟨z,c,n,r,y,e⟩:=I.lstM f;obtain⟨A,a,m,o,g,i⟩:=I.lstM j;have hsz:c.toArray.size+a.toArray.size<=sizeLine:=by nofun
 have d: ¬(!c.toArray.isEmpty&&WU (c.toArray.size+a.toArray.size))=true:=by
  rw[Hi hsz,jcD];simp
 refine Yr F.slot_list_extend ⟨_,e,rfl⟩ F.entry_list_extend (F.args_list_extend_2 _ _)
  (AutoSeq1.list_extend_list_list_0 l c.toArray n b a.toArray m d (by nofun) ⋯) ⟨e,i,?_⟩
 refine⟨.non,_,I.lset (its':=c++a) f e (by simp) (r.append o) ?_,rfl,q⟩;rw[S5];omega
def GG:V->List V->Hp->VK->Prop:=λx vs H Q=> ∃l xs i k y,x=.ref l/\vs=[.int i]/\H l=p5 (.lst xs)/\ -(2^63)<=i/\i<2^63/\seqIndex? i xs.length=p5 k/\xs[k]? =p5 y/\Q y (aW H l (.lst (xs.eraseIdx k)))
theorem FI:Lh X "list.pop" GG:=by
 intro p s σ H x vs v us Q I j m h;obtain⟨l,xs,i,k,y,rfl,rfl,c,f,d,B,o,q⟩:=h;cases j;obtain⟨u,rfl,g⟩:=m.one;obtain⟨t,rfl⟩:=g;obtain⟨z,a,n,r,A,e⟩:=I.lstM c;obtain⟨w,hw,b⟩:=r.get o;refine Yr F.slot_list_pop ⟨_,e,rfl⟩ F.entry_list_pop (F.args_list_pop_2 _ _)
  (MeetsSeq.list_pop_at l a.toArray n i t k w (fitsIndex_both f d) (by nofun) (by nofun) (by nofun)) ⟨e,?_⟩
 refine⟨y,_,I.lset (its':=a.eraseIdx k) c e ?_ (r.eraseIdx k) ?_,b,q⟩
 ·simp
 ·have:=l4 xs k;grind
def GW:V->List V->Hp->VK->Prop:=λx vs H Q=> ∃l xs,x=.ref l/\vs=[]/\H l=p5 (.lst xs)/\Q .non (aW H l (.lst []))
theorem Ed:Lh X "list.clear" GW:=by
 intro g s σ H x vs v us Q I d f h;obtain⟨l,xs,rfl,rfl,c,q⟩:=h;cases d;have a:=f.zero;subst a;obtain⟨z,b,n,r,i,e⟩:=I.lstM c;refine Yr F.slot_list_clear ⟨_,e,rfl⟩ F.entry_list_clear (F.args_list_clear_1 _) (AutoSeq1.list_clear_list_0 l b.toArray n (by nofun)) ⟨e,?_⟩;exact⟨.non,_,I.lset (its':=[]) (ys:=[]) c e rfl .nil (Ur _),rfl,q⟩
end
end
end Lake
namespace Att
noncomputable section
open PySem PySem.W PySem.Calls PyProof.Rows
theorem n8: ∀(ns:List Int) (vs:List Sw),WellAll P h vs (ns.map WData.int)->jad vs ns:=by
 intro ns
 induction ns with
 |nil=>
  intro vs w;rw[jaY] at w;cases w;exact .nil
 |cons n ns c=>
  intro vs w;rw[SD] at w;cases w with
  |cons a b=>
   cases a;exact .cons _ _ (c _ b)
theorem DV {l:jeB}(o:l.most=p5 n){h:Heap}
 (b:l.row.toRowW.claim.pre args=S1) (g:WellAll P h vals args):
 ∃a vs ns,vals=[Tc a]/\args=[WData.list (ns.map WData.int)]/\h.get? a=p5 {cls:=.type "list",data:=.seq vs.toArray}/\jad vs ns/\ns.length<=n:=by
 have i:WShape.hasAll [] args [.list .int]=true:=(pre_splitW b).1;have j:l.pre.holds [] {args:=args}=true:=(pre_splitW b).2;obtain⟨d,r,rfl,m,k⟩:=hasAllW_cons i;obtain rfl:=hasAllW_nil k;obtain⟨xs,rfl,p⟩:=hasW_list m;obtain⟨ns,rfl⟩:=items_int p;have c:ns.length<=n:=by
  unfold OpenLaw.pre at j;have f:(WTm.not (.lt (.lit (.int (n:Int))) (.len (.arg 0)))).holds [] {args:=[.list (ns.map .int)]}=true:=by
   have f:=(holds_andW j).1;rw[o] at f;exact f
  have u:=condW_of f (w_not (w_lt w_lit (w_len_list (w_arg rfl))));nofun
 cases g with
 |cons s q=>
  cases q;cases s with
  |list t e=>exact⟨_,_,ns,rfl,rfl,t,n8 ns _ e,c⟩
theorem Do(l:jeB)(args:List WData):l.row.toRowW.claim.post args (.bool S1) args=true:=
 postW_of (r:=l.row.toRowW) (X:=(S1==S1))
  (show WShape.has [] (.bool S1) .bool=S1 by rfl)
  (show(WTm.eq .res (.lit (.bool S1))).value [] {args:=args,res:=p5 (.bool S1),after:=args}=p5 (.bool (S1==S1)) from w_eq_bool (w_res rfl) w_lit) rfl
theorem attach_call {l:jeB}{d:DefRec}
 (K:l.most=p5 n) (u:d.params.defaults=[])
 (m: ∀(w:Tu) (c b:Sx) (s v:Str->Option Sw) (k:Addr) (o:Obj) (t p e:Sw) (a:Addr) (vs:List Sw) (ns:List Int),
   Ground q loose [] XP w c s v b.heap->YP w b.heap->
   b.heap.get? k=p5 o->o.data=.func (docDef d.name d.params d.body d.scope t p e)->b.heap.CodeRec p d.name->s d.name=p5 (.ref k)->
   b.heap.get? a=p5 {cls:=.type "list",data:=.seq vs.toArray}->jad vs ns->ns.length<=n->b.gens= #[]->
   Vy (model l.prog w) Zr (.call (.ref k) ⟨[.ref a],[]⟩) (λr s'=>r=.ok (.ret (.bool S1))/\OldK b.heap s'.heap/\s'.os=b.os/\XH s'.gens) b):
 WalkO q loose XP YP l.row.toRowW d [] (λf vs=>jcW f vs):=by
 intro w c b s v G Y k o t p e P kV Q I z A y H B D as j C L x M;obtain rfl:P=.none:=Dflts.none A u;obtain rfl:kV=.none:=Dflts.noKw A;obtain⟨a,vs,ns,rfl,rfl,h,g,i⟩:=DV K j x;refine enter_call (Vo (m w c b s v k o t p e a vs ns G Y Q (fd_plain I) z y h g i H) λr s' F=>?_);obtain⟨rfl,E,N,J⟩:=F;exact⟨.inl ⟨.bool S1,.bool S1,[],rfl,λ_=>rfl,.bool S1,Do l _,λ_=>⟨Wu,λ_ O=>(nomatch O)⟩⟩,E,N,J⟩
end
end Att
namespace Lake
noncomputable section
open PySem PySem.Spec PyProof.Rows
theorem rE: ∀ {vs:List Sw} {ns:List Int},jad vs ns->cc (ns.map V.int) vs
 |_,_,.nil=>.nil
 |_,_,.cons n t h=>.cons ⟨t,rfl⟩ (rE h)
def Nx(H:Hp):Prop:= ∀b,H b=Sr\/ ∃o xs,H b=p5 (.frz o (.lst xs))
theorem Gx{K:SA}{sp:Sp}{c:Sx}{vs:List Sw}{ns:List Int}
 (Q:K.In c.heap) (B:c.heap.Ns UC mg) (l:c.heap.Ns jay mb) (E: ∀x:Str,x≠"__name__"->mb x=T3 x) (y:c.heap.NoLimit) (R:c.gens= #[])
 (I:c.heap.get? a=p5 {cls:=.type "list",data:=.seq vs.toArray}) (N:jad vs ns) (hl:ns.length<=SU) (T:fq k Zr)
 (F: ∀base:Heap,K.In base->base.Ns UC mg->j3 P w K mg base CX k fa fd [x] sp) (j: ∀(s:Sx) (u:Sw),jaW s fd ⟨[u],[]⟩ [(x,u)])
 (J: ∀H:Hp,Nx H->SqL K H a (ns.map V.int)->sp [.ref a] H (λv _=>v=.bl S1) λ_ _ _=>False)
 (D: ∀H e s',CX [] H c (λ_ _ _=>False) e s'->False):
 Vy (model P w) Zr (.call (.ref fa) ⟨[.ref a],[]⟩) (λr s'=>r=.ok (.ret (.bool S1))/\OldK c.heap s'.heap/\s'.os=c.os/\XH s'.gens) c:=by
 have rv:=rE N;have L:=N.length;have i: ∀H:Hp,Nx H->SqL K H a (ns.map V.int)->HOk P w H c.heap->(∀b,H b≠Sr->b=a)->(H a≠Sr->K.lookup a=Sr)->
  Vy (model P w) Zr (.call (.ref fa) ⟨[.ref a],[]⟩) (λr s'=>r=.ok (.ret (.bool S1))/\OldK c.heap s'.heap/\s'.os=c.os/\XH s'.gens) c:=by
  intro H O hS p hA hK;have f: ∀ {b:Addr} {o:Obj},c.heap.get? b=some o->H b=none->(uV c.heap H).get? b=some o:=λe n=>F7 e n
  have G: ∀ {b:Addr} {o:Obj} {es:Array jbD} {ep:Nat},c.heap.get? b=p5 o->o.data=.dict es ep->H b=none:=λ{b o es ep} e d=>by
   grind
  have g: ∀ {b:Addr} {m:Str->Option Sw},c.heap.Ns b m->(uV c.heap H).Ns b m:=λ{b m} ⟨o,es,ep,e,d,r⟩=>⟨o,es,ep,f e (G e d),d,r⟩
  have t:K.In (uV c.heap H):=λb o e=>f (Q b o e) (by
   grind)
  have W:Mod K mg (uV c.heap H):=⟨t,g B,⟨mb,g l,E⟩,let⟨mc,h1,h2⟩:=y;⟨mc,g h1,h2⟩⟩
  have X:u4 P w K mg (uV c.heap H) Zr [] c H:=⟨rfl,W,λb o e=>Lk e,Nat.le_of_eq (Ce _ _),trivial,λb l=>absurd (show b∈([]:List Addr) from l) (by simp),p,.of_eq R⟩
  refine Vo ((F _ t (g B)).run Zr [] c H ⟨[.ref a],[]⟩ [.ref a] [.ref a] _ _ T X (j c (.ref a)) (.cons rfl .nil) (J H O hS)) λr s' h=>?_
  cases r with
  |error e=>exact(D H e s' h).elim
  |ok Y=>
   cases Y with
   |next=>exact False.elim h
   |brk=>exact False.elim h
   |cont=>exact False.elim h
   |ret u=>
    obtain⟨v,H',os,A,M,C,Z,q⟩:=h;have S:v=.bl true:=q;subst S;obtain rfl:u=jhq true:=Z;refine⟨rfl,OldK.of_keep λb o e=>?_,os,A⟩;cases q:H b with
    |none=>exact M.keep b o e q (by intro z;exact absurd (show b∈([]:List Addr) from z) (by simp)) (by simp)
    |some u=>
     rcases O b with z|⟨ob,xs,z⟩
     ·lia
     ·have U:=M.frzs b ob _ z;obtain⟨e1,_⟩:=p b _ z;obtain⟨e2,_⟩:=C b _ U;nofun
 cases hk:K.lookup a with
 |some o=>
  have e:=Q a o hk;rw[I] at e;cases e;refine i (λ_=>Sr) (λ_=>.inl rfl) (.inr ⟨_,vs.toArray,_,hk,rfl,rfl,rfl,by nofun,by omega⟩) (λb u z=>by nofun) (λb z=>absurd rfl z) λz=>absurd rfl z
 |none=>
  refine i (λb=>if b=a then p5 (.frz {cls:=.type "list",data:=.seq vs.toArray} (.lst (ns.map V.int))) else Sr) (λb=>?_) (.inl (.inr ⟨{cls:=.type "list",data:=.seq vs.toArray},if_pos rfl⟩)) (λb u z=>?_) (λb z=>?_) λ_=>hk
  ·grind
  ·by_cases l:b=a
   ·have z':=(if_pos l).symm.trans z;cases z';subst l;exact⟨I,by nofun,vs,_,rv,I⟩
   nofun
  nofun
theorem walk_of {l:jeB}{n k:Nat}{d:DefRec}{K:Params->SA}{CX:Tu->EE}{sp:Tu->Sp}{x:Str}
 (M:l.most=p5 n) (t:n<=SU) (z:d.params.defaults=[]) (L:fq k Zr)
 (O: ∀(w:Tu) (h:Heap),YP w h->(K w.params).In h)
 (F: ∀(w:Tu) (j:Str->Option Sw) (r:Addr) (h:Heap),(K w.params).In h->h.Ns UC j->j d.name=p5 (.ref r)->
   ∃A:Vu,(∀(s:Sx) (u:Sw),jaW s A ⟨[u],[]⟩ [(x,u)])/\
    ∀base:Heap,(K w.params).In base->base.Ns UC j->j3 l.prog w (K w.params) j base (CX w) k r A [x] (sp w))
 (B: ∀(w:Tu) (H:Hp) (a:Addr) (ns:List Int),ns.length<=n->Nx H->SqL (K w.params) H a (ns.map V.int)->sp w [.ref a] H (λv _=>v=.bl S1) λ_ _ _=>False)
 (y: ∀(w:Tu) (H:Hp) (s:Sx) (e:Sw) (s':Sx),CX w [] H s (λ_ _ _=>False) e s'->False):
 W.WalkO q loose XP YP l.row.toRowW d [] (λf vs=>jcW f vs):=by
 refine Att.attach_call M z λw D p j Z r o U cd N a vs ns G Y ho X Q C m i c J=>?_
 have E:=O w _ Y;obtain⟨A,I,S⟩:=F w j r _ E G.T.g C;exact Gx E G.T.g G.T.b G.T.builtins G.T.nolimit J m i (Tz c t) L S I (λH R P=>B w H a ns c R P) λH e s'=>y w H p e s'
def f9(s:Stmt):Arguments:=match s with
 | .FunctionDef _ a _ _ _ _ _ _ _ _=>a
 |_=>{posonlyargs:=[],args:=[],vararg:=Sr,kwonlyargs:=[],kw_defaults:=[],kwarg:=Sr,defaults:=[]}
def c6(s:Stmt):List Stmt:=match s with
 | .FunctionDef _ _ b _ _ _ _ _ _ _=>b
 |_=>[]
def av(s:Stmt):Scope:=match s with
 | .FunctionDef _ _ _ _ _ _ a _ _ _=>a
 |_=>{kind:=.function,names:=[],isGenerator:=Pa,isCoroutine:=Pa}
abbrev vV:EE:=λ_ _ _ _ _ _=>False
abbrev E0:XK:=λ_ _ _=>False
theorem LF {X:Cx}:yY vV X E0:=λ_ _ _ _ _ _ _ h=>h.elim
structure Fun(K:SA)(x qual:Str)(st:Stmt)(f:Addr)(fd:Vu):Prop where
 ex: ∃(oc:Sw) (od:Option Addr) (kV doc pm:Sw) (an:Option Addr) (cdv ct:Sw) (osl:Array (Option Sw)),
  fd=Zn x qual (f9 st) (c6 st) (av st) .none kV doc pm an cdv ct/\K.lookup f=p5 ⟨oc,od,.func fd,osl⟩/\jaX K cdv qual=S1
 kp:Yq K (.ref f)=S1
section
variable {K:SA}
theorem Fun.ok{st:Stmt}{N i:List Str}{sp:Sp}(F:Fun K x qual st f fd)(S:bg N i (av st))(d: ∀vs H Q E,sp vs H Q E->vs.length=i.length)
 (c: ∀(b:Sw) (A:Tr) (a:List Env) (s:Sx) (H:Hp) (vs:List V) (Q:VK) (E:XK),fq k (A.deeper (XW qual (av st) s.heap.objs.size f b))->sp vs H Q E->
   ∃t,PSs (qT vV P w K mg base N qual (av st) f b A a s H E).nox (c6 st) t/\t {nx:=λ_ l=>Q .non l,rt:=Q} (start N vs) H):j3 P w K mg base vV (k+1) f fd i sp:=by
 obtain⟨r,v,kV,m,p,u,b,ct,n,rfl,j,g⟩:=F.ex;refine Of j g S d λA a s H vs Q E o e=>?_
 obtain⟨t,h,q⟩:=c b A a s H vs Q E o e;exact⟨t,h.nox,q⟩
theorem Fun.binds{st:Stmt}{e:List Str}(F:Fun K x qual st f fd)
 (h: ∀(kV b c:Sw) (d:Option Addr) (a ct:Sw) (us:List Sw),us.length=e.length->bindArgs (Zn x qual (f9 st) (c6 st) (av st) .none kV b c d a ct) ⟨us,[]⟩=pure (e.zip us)):ni K fd e []:=by
 obtain⟨j,l,kV,b,c,d,a,ct,i,rfl,k,g⟩:=F.ex;exact .all (h kV b c d a ct)
theorem zo{st:Stmt}{h:Sw}{i g:Option Addr}{d:Array (Option Sw)}{kV b e a ct:Sw}(l:K.lookup f=p5 ⟨h,i,.func (Zn x qual (f9 st) (c6 st) (av st) .none kV b e g a ct),d⟩)
 (c:jaX K a qual=S1) (k:Yq K (.ref f)=S1):Fun K x qual st f (Zn x qual (f9 st) (c6 st) (av st) .none kV b e g a ct):=⟨⟨h,i,kV,b,e,g,a,ct,d,rfl,l,c⟩,k⟩
end
theorem dJ {A:Tr}(a:fq k A):A.units+1<cLine:=SZ (Vl (by simp:1<=64) _) a.units
theorem fC {n:Nat}(h:n<=1000):n<sizeLine:=SZ h ()
section
variable {X:Cx}
theorem pv(i:Nat)(c:X.N[i]? =p5 x:=by rfl)(hv:lW X.env.scope x:=by first|exact TL rfl|exact Te (TL rfl)|exact Te (Te rfl))(b:(x==("__debug__":Str))=false:=by decide)
 (a:(x==("__classdict__":Str))=false:=by decide):PE X (.Name x pos) (PR i):=MS c hv b a
end
theorem Jf {A B:Prop}(h:B):if Pa=S1 then A else B:=by
 nofun
theorem Kg {A B:Prop}(h:A):if S1=S1 then A else B:=by
 nofun
def ab(H a:Hp):Prop:= ∀b o,H b=p5 o->a b=p5 o
theorem ab.refl(H:Hp):ab H H:=λ_ _ h=>h
theorem ab.trans(a:ab H H1)(b:ab H1 H2):ab H H2:=λc o h=>b c o (a c o h)
theorem ab.free(e:ab H H')(h:H' l=jgb):H l=Option.none:=by
 cases q:H l with
 |none=>rfl
 |some o=>
  rw[e l o q] at h;omega
theorem ab.seq {K:SA}(e:ab H H')(h:SqL K H a xs):SqL K H' a xs:=by
 rcases h with(h|⟨o,h⟩)|h
 ·exact .inl (.inl (e _ _ h))
 ·exact .inl (.inr ⟨o,e _ _ h⟩)
 ·exact .inr h
inductive D where
 |non|bl (b:Bool)|int (i:Int)|str (x:Str)|tup (ds:List D)|lst (ds:List D)
 |scr (ds:List D)
 |dct (ks:List (List aP)) (ds:List D)
def SqR(K:SA)(H:Hp)(a:Addr)(xs:List V):Prop:=
 (∃o,H a=p5 (.frz o (.lst xs)))\/
   ∃(o:Obj) (b:Array Sw) (n:Nat),K.lookup a=p5 o/\o.cls=.type "list"/\o.dict=Sr/\o.data=.seq b n/\b.size<=SU/\cc xs b.toList
theorem SqR.seq {K:SA}(h:SqR K H a xs):SqL K H a xs:=h.elim (λh=>.inl (.inr h)) .inr
theorem ab.seqR {K:SA}(e:ab H H')(h:SqR K H a xs):SqR K H' a xs:=h.elim (λ⟨o,h⟩=>.inl ⟨o,e _ _ h⟩) .inr
mutual
inductive Rep (K:SA) (F:Hp):V->D->Prop
 |non:Rep K F .non .non
 |bl {b:Bool}:Rep K F (.bl b) (.bl b)
 |int {i:Int}:Rep K F (.int i) (.int i)
 |str {x:Str}:Rep K F (.str x) (.str x)
 |tup {a:Addr} {xs:List V} {ds:List D}:F a=some (.tup xs)->Reps K F xs ds->Rep K F (.ref a) (.tup ds)
 |lst {a:Addr} {xs:List V} {ds:List D}:F a=some (.lst xs)->Reps K F xs ds->Rep K F (.ref a) (.lst ds)
 |scr {a:Addr} {xs:List V} {ds:List D}:SqR K F a xs->Reps K F xs ds->Rep K F (.ref a) (.scr ds)
 |dct {a:Addr} {o:Obj} {xs:List V} {ks:List (List aP)} {ds:List D}:F a=some (.frz o (.dT (ks.zip xs)))->ks.length=xs.length->Reps K F xs ds->Rep K F (.ref a) (.dct ks ds)
inductive Reps (K:SA) (F:Hp):List V->List D->Prop
 |nil:Reps K F [] []
 |cons {x:V} {d:D} {xs:List V} {ds:List D}:Rep K F x d->Reps K F xs ds->Reps K F (x::xs) (d::ds)
end
theorem ab.seqT {K:SA}(e:ab H H')(h:SqT K H a xs):SqT K H' a xs:=by
 rcases h with(h|⟨o,h⟩)|h
 ·exact .inl (.inl (e _ _ h))
 ·exact .inl (.inr ⟨o,e _ _ h⟩)
 ·exact .inr h
mutual
theorem Rep.mono {K:SA}(s:ab F G): ∀ {v:V} {d:D},Rep K F v d->Rep K G v d
 |_,_,.non=>.non
 |_,_,.bl=>.bl
 |_,_,.int=>.int
 |_,_,.str=>.str
 |_,_,.tup h r=>.tup (s _ _ h) (Reps.mono s r)
 |_,_,.lst h r=>.lst (s _ _ h) (Reps.mono s r)
 |_,_,.scr h r=>.scr (ab.seqR s h) (Reps.mono s r)
 |_,_,.dct h l r=>.dct (s _ _ h) l (Reps.mono s r)
theorem Reps.mono {K:SA}(s:ab F G): ∀ {v:List V} {d:List D},Reps K F v d->Reps K G v d
 |_,_,.nil=>.nil
 |_,_,.cons r t=>.cons (Rep.mono s r) (Reps.mono s t)
end
section
variable {K:SA}
theorem Reps.length: ∀ {xs:List V} {ds:List D},Reps K F xs ds->xs.length=ds.length
 |_,_,.nil=>rfl
 |_,_,.cons _ t=>by simp[t.length]
theorem Reps.get: ∀ {xs:List V} {ds:List D} {i:Nat} {d:D},Reps K F xs ds->ds[i]? =p5 d-> ∃x,xs[i]? =p5 x/\Rep K F x d
 |_,_,_,_,.nil,e=>by simp at e
 |_,_,0,_,.cons r _,e=>by nofun
 |_,_,i+1,d,.cons _ t,e=>by
  obtain⟨u,b,a⟩:=Reps.get (i:=i) (d:=d) t (by simpa using e);exact⟨u,by simpa using b,a⟩
theorem Reps.get'{i:Nat}(r:Reps K F xs ds)(e:xs[i]? =p5 x): ∃d,ds[i]? =p5 d/\Rep K F x d:=by
 have f:=r.length;have g:=(SK.mp e).1;have a:ds[i]? =p5 ds[i]:=SJ (by nofun);obtain⟨y,b,c⟩:=r.get a;rw[e] at b;cases b;exact⟨_,a,c⟩
theorem Reps.append: ∀ {xs ys:List V} {us a:List D},Reps K F xs us->Reps K F ys a->Reps K F (xs++ys) (us++a)
 |_,_,_,_,.nil,s=>s
 |_,_,_,_,.cons r t,s=>.cons r (Reps.append t s)
theorem Reps.set(r:Rep K F x u): ∀ {xs:List V} {us:List D} (i:Nat),Reps K F xs us->Reps K F (xs.set i x) (us.set i u)
 |_,_,_,.nil=>.nil
 |_,_,0,.cons _ t=>.cons r t
 |_,_,i+1,.cons q t=>.cons q (Reps.set r i t)
theorem Reps.eraseIdx: ∀ {xs:List V} {us:List D} (i:Nat),Reps K F xs us->Reps K F (xs.eraseIdx i) (us.eraseIdx i)
 |_,_,_,.nil=>.nil
 |_,_,0,.cons _ t=>t
 |_,_,i+1,.cons q t=>.cons q (Reps.eraseIdx i t)
theorem Reps.take: ∀ {xs:List V} {us:List D} (n:Nat),Reps K F xs us->Reps K F (xs.take n) (us.take n)
 |_,_,0,_=>.nil
 |_,_,_+1,.nil=>.nil
 |_,_,n+1,.cons r t=>.cons r (Reps.take n t)
theorem Reps.drop: ∀ {xs:List V} {us:List D} (n:Nat),Reps K F xs us->Reps K F (xs.drop n) (us.drop n)
 |_,_,0,r=>r
 |_,_,_+1,.nil=>.nil
 |_,_,n+1,.cons _ t=>Reps.drop n t
end
abbrev bC:=Addr->Bool
def vw(H:Hp)(hid:bC):Hp:=λb=>if hid b=S1 then Sr else H b
def bA(hid:bC)(a:Addr):bC:=λb=>hid b||decide (b=a)
def eA(hid:bC)(a:Addr):bC:=λb=>hid b&& !Oo (b=a)
theorem cW:vw H hid b=p5 o↔hid b=Pa/\H b=p5 o:=by
 simp[vw]
theorem bU(H:Hp)(hid:bC):ab (vw H hid) H:=λb o h=>(cW.mp h).2
theorem aC{hid:bC}(s:ab H H'):ab (vw H hid) (vw H' hid):=λb o h=>cW.mpr ⟨(cW.mp h).1,s _ _ (cW.mp h).2⟩
theorem Ag(s: ∀b o,H b=p5 o->hid b=Pa->H' b=p5 o):ab (vw H hid) (vw H' hid):=λb o h=>cW.mpr ⟨(cW.mp h).1,s _ _ (cW.mp h).2 (cW.mp h).1⟩
theorem bV(h:hid a=S1):vw (aW H a o) hid=vw H hid:=by
 funext b;unfold vw aW;lia
theorem fy(h: ∀b,hid' b=S1->hid b=S1):ab (vw H hid) (vw H hid'):=λb o q=>by
 obtain⟨c,a⟩:=cW.mp q;refine cW.mpr ⟨?_,a⟩;grind
theorem uJ(h:H a=Sr):vw (aW H a o) (bA hid a)=vw H hid:=by
 funext b;unfold vw aW bA;lia
inductive NO where
 |l (ds:List D)
 |k (kvs:List (aP×D))
inductive Ob where
 |nst (us:List NO)
 |dR (kvs:List (aP×D))
 |dRs (l:List (List (aP×D)))
 |exc (x:Str) (n:Int)
 |dK (kvs:List (aP×D))
 |dT (kvs:List (List aP×D))
 |set (ds:List D)
 |old (d:D)
 |jnk
 |tset (ks:List (List Int))
 |dF (kvs:List (List aP×D))
 |dQ (kvs:List (List aP×D))
 |frs (d:D)
 |dN (kvs:List (List aP×List D))
inductive Sl where
 |no
 |v (d:D)
 |own (ds:List D)
 |arg (ds:List D)
 |ob (b:Ob)
abbrev aB:=List Sl
structure Ct where
 H₀:Hp
 hid₀:bC
 mu:Addr->Bool
def PV(K:SA)(x:Str)(n:Int)(a:Addr)(h:Heap):Prop:= ∃C o,W.nsIn K UC x=p5 (p5 (.ref C))/\h.get? a=p5 o/\o.cls=.ref C/\o.dict=Sr/\W.notCls o=S1
def O5:Option HO->Bool
 |some (.lst _)=>S1
 |_=>Pa
def fv(c:Ct)(F:Hp):Hp:=λb=>if(c.H₀ b).isSome=S1/\O5 (F b)=S1 then Sr else F b
def ov(c:Ct)(F:Hp):Hp:=λb=>if(c.H₀ b).isSome=S1 then F b else Sr
theorem tq {c:Ct}:fv c F b=p5 o↔(O5 (p5 o)=S1->c.H₀ b=Sr)/\F b=p5 o:=by
 unfold fv;constructor
 ·intro h;split at h
  ·nofun
  ·rename_i a
   refine⟨λq=>?_,h⟩;nofun
 ·grind
theorem r6 {c:Ct}:ov c F b=p5 o↔(∃u,c.H₀ b=p5 u)/\F b=p5 o:=by
 unfold ov;cases hb:c.H₀ b<;>simp
theorem BQ(s:ab F G):ab (fv c F) (fv c G):=λb o h=>tq.mpr ⟨(tq.mp h).1,s _ _ (tq.mp h).2⟩
theorem Kr(s:ab F G):ab (ov c F) (ov c G):=λb o h=>r6.mpr ⟨(r6.mp h).1,s _ _ (r6.mp h).2⟩
def NOk(K:SA)(c:Ct)(hid:bC)(H:Hp)(p a:Addr):NO->Prop
 | .l ds=>(hid a=S1/\c.H₀ a=Sr)/\ ∃xs:List V,H a=p5 (.nst p (.lst xs))/\Reps K (vw H hid) xs ds
 | .k kvs=>(hid a=S1/\c.H₀ a=Sr)/\ ∃us:List (aP×V),H a=p5 (.nst p (.dK us))/\us.map (·.1)=kvs.map (·.1)/\Reps K (vw H hid) (us.map (·.2)) (kvs.map (·.2))
theorem NOk.mono {K:SA}{hid d:bC}(h:NOk K c hid H p a b)(k: ∀u,H a=p5 (.nst p u)->H' a=p5 (.nst p u))(s:ab (vw H hid) (vw H' d))(w:(∃u,H a=p5 (.nst p u))->d a=S1):NOk K c d H' p a b:=by
 cases b with
 |l ds=>obtain⟨f,us,e,g⟩:=h;exact⟨⟨w ⟨_,e⟩,f.2⟩,us,k _ e,g.mono s⟩
 |k kvs=>obtain⟨f,us,e,g,i⟩:=h;exact⟨⟨w ⟨_,e⟩,f.2⟩,us,k _ e,g,i.mono s⟩
def DRd(K:SA)(W:Hp)(a:Addr)(kvs:List (aP×D)):Prop:= ∃o us,W a=p5 (.frz o (.dK us))/\us.map (·.1)=kvs.map (·.1)/\Reps K W (us.map (·.2)) (kvs.map (·.2))
theorem DRd.mono {K:SA}(h:DRd K W a kvs)(s:ab W W'):DRd K W' a kvs:=by
 obtain⟨o,us,d,b,c⟩:=h;exact⟨o,us,s _ _ d,b,c.mono s⟩
def DQd(K:SA)(W:Hp)(a:Addr)(kvs:List (List aP×D)):Prop:= ∃o us,W a=p5 (.frz o (.dT us))/\us.map (·.1)=kvs.map (·.1)/\Reps K W (us.map (·.2)) (kvs.map (·.2))
theorem DQd.mono {K:SA}(h:DQd K W a kvs)(s:ab W W'):DQd K W' a kvs:=by
 obtain⟨o,us,d,b,c⟩:=h;exact⟨o,us,s _ _ d,b,c.mono s⟩
def ri(K:SA)(c:Ct)(hid:bC)(H:Hp)(a:Addr):Ob->Prop
 | .nst us=>(hid a=S1/\c.H₀ a=Sr)/\ ∃bs:List Addr,H a=p5 (.lst (bs.map V.ref))/\bs.Nodup/\Paired (NOk K c hid H a) bs us
 | .dR kvs=>DRd K (vw H hid) a kvs
 | .dQ kvs=>DQd K (vw H hid) a kvs
 | .frs d=>Rep K (fv c (vw H hid)) (.ref a) d
 | .dN kvs=>(hid a=S1/\c.H₀ a=Sr)/\ ∃(us:List (List aP×V)) (bs:List Addr),H a=p5 (.dT us)/\us.map (·.1)=kvs.map (·.1)/\us.map (·.2)=bs.map V.ref/\bs.Nodup/\Paired (NOk K c hid H a) bs (kvs.map λz=>NO.l z.2)
 | .dRs l=> ∃bs:List Addr,vw H hid a=p5 (.lst (bs.map V.ref))/\Paired (DRd K (vw H hid)) bs l
 | .exc x n=> ∃φ,vw H hid a=p5 (.ext φ)/\ ∀h,φ h->PV K x n a h
 | .dK kvs=>(hid a=S1/\c.H₀ a=Sr)/\ ∃us:List (aP×V),H a=p5 (.dK us)/\us.map (·.1)=kvs.map (·.1)/\Reps K (vw H hid) (us.map (·.2)) (kvs.map (·.2))
 | .dT kvs=>(hid a=S1/\c.H₀ a=Sr)/\ ∃us:List (List aP×V),H a=p5 (.dT us)/\us.map (·.1)=kvs.map (·.1)/\Reps K (vw H hid) (us.map (·.2)) (kvs.map (·.2))
 | .set ds=>(hid a=S1/\c.H₀ a=Sr)/\ ∃xs:List V,H a=p5 (.lst xs)/\Reps K (fv c (vw H hid)) xs ds
 | .old d=>Rep K (ov c (vw H hid)) (.ref a) d
 | .jnk=>(hid a=S1/\c.H₀ a=Sr)/\ ∃xs:List V,H a=p5 (.lst xs)
 | .tset ks=>(hid a=S1/\c.H₀ a=Sr)/\ ∃xs:List (List Int×Addr),H a=p5 (.tst xs)/\(xs.map (·.1)).Perm ks/\Reps K (vw H hid) (xs.map λx=>V.ref x.2) (xs.map λx=>D.tup (x.1.map D.int))
 | .dF kvs=>(hid a=S1/\c.H₀ a=Sr)/\ ∃(o:Obj) (us:List (List aP×V)),H a=p5 (.frz o (.dT us))/\us.map (·.1)=kvs.map (·.1)/\Reps K (vw H hid) (us.map (·.2)) (kvs.map (·.2))
def uX:Ob->Prop
 | .exc _ _=>False
 | .old _=>False
 | .dR _=>False
 | .dRs _=>False
 | .dQ _=>False
 | .frs _=>False
 |_=>True
def At(H:Hp)(a x:Addr):Prop:=x=a\/ ∃u,H x=p5 (.nst a u)
theorem At.ne(b:At H a' x)(ne:a'≠a)(c:H a=p5 o)(f: ∀p u,o≠ .nst p u:=by intro _ _ e;cases e):x≠a:=λe=>by
 subst e;rcases b with rfl|⟨u,d⟩
 ·exact ne rfl
 ·rw[c] at d;nofun
theorem ri.mono {K:SA}{hid g:bC}(h:ri K c hid H a b)(k:uX b-> ∀x,At H a x-> ∀o,H x=p5 o->H' x=p5 o)(s:ab (vw H hid) (vw H' g))(w:uX b-> ∀x,At H a x->hid x=S1->g x=S1):ri K c g H' a b:=by
 have m:uX b-> ∀o,H a=p5 o->H' a=p5 o:=λo=>k o a (.inl rfl)
 have p:uX b->hid a=S1->g a=true:=λo=>w o a (.inl rfl)
 cases b with
 |nst us=>
  obtain⟨e,bs,f,i,j⟩:=h;refine⟨⟨p trivial e.1,e.2⟩,bs,m trivial _ f,i,Paired.mapP j λx y z=>z.mono (λu q=>k trivial x (.inr ⟨u,q⟩) _ q) s λq=>w trivial x (.inr q) ?_⟩;cases y with
  |l ds=>exact z.1.1
  |k kvs=>exact z.1.1
 |dR kvs=>exact DRd.mono h s
 |dQ kvs=>exact DQd.mono h s
 |frs d=>exact Rep.mono (BQ s) h
 |dN kvs=>
  obtain⟨e,us,bs,f,i,j,r,t⟩:=h;refine⟨⟨p trivial e.1,e.2⟩,us,bs,m trivial _ f,i,j,r,Paired.mapP t λx y z=>z.mono (λu q=>k trivial x (.inr ⟨u,q⟩) _ q) s λq=>w trivial x (.inr q) ?_⟩;cases y with
  |l ds=>exact z.1.1
  |k kvs=>exact z.1.1
 |dRs l=>obtain⟨bs,e,f⟩:=h;exact⟨bs,s _ _ e,Paired.mapP f λ_ _ z=>z.mono s⟩
 |exc x n=>obtain⟨φ,e,f⟩:=h;exact⟨φ,s _ _ e,f⟩
 |dK kvs=>obtain⟨e,us,f,i,j⟩:=h;exact⟨⟨p trivial e.1,e.2⟩,us,m trivial _ f,i,j.mono s⟩
 |dT kvs=>obtain⟨e,us,f,i,j⟩:=h;exact⟨⟨p trivial e.1,e.2⟩,us,m trivial _ f,i,j.mono s⟩
 |set ds=>obtain⟨e,us,f,i⟩:=h;exact⟨⟨p trivial e.1,e.2⟩,us,m trivial _ f,i.mono (BQ s)⟩
 |old d=>exact Rep.mono (Kr s) h
 |jnk=>obtain⟨e,us,f⟩:=h;exact⟨⟨p trivial e.1,e.2⟩,us,m trivial _ f⟩
 |tset ks=>obtain⟨e,us,f,i,j⟩:=h;exact⟨⟨p trivial e.1,e.2⟩,us,m trivial _ f,i,j.mono s⟩
 |dF kvs=>obtain⟨e,o,us,f,i,j⟩:=h;exact⟨⟨p trivial e.1,e.2⟩,o,us,m trivial _ f,i,j.mono s⟩
theorem ri.hid {K:SA}{c:Ct}{hid:bC}{H:Hp}{a:Addr}{b:Ob}(h:ri K c hid H a b)(o:uX b):hid a=true:=by
 cases b with
 |nst us=>exact h.1.1
 |dQ kvs=>exact o.elim
 |frs d=>exact o.elim
 |dN kvs=>exact h.1.1
 |dR kvs=>exact o.elim
 |dRs l=>exact o.elim
 |exc x n=>exact o.elim
 |dK kvs=>exact h.1.1
 |dT kvs=>exact h.1.1
 |set ds=>exact h.1.1
 |old d=>exact o.elim
 |jnk=>exact h.1.1
 |tset ks=>exact h.1.1
 |dF kvs=>exact h.1.1
def uv(K:SA)(c:Ct)(hid:bC)(σ:St)(H:Hp)(i:Nat):Sl->Prop
 | .no=>True
 | .v d=> ∃x,σ[i]? =p5 (p5 x)/\Rep K (vw H hid) x d
 | .own ds=> ∃a xs,σ[i]? =p5 (p5 (.ref a))/\H a=p5 (.lst xs)/\hid a=S1/\c.H₀ a=Sr/\Reps K (vw H hid) xs ds
 | .arg ds=> ∃a xs,σ[i]? =p5 (p5 (.ref a))/\H a=p5 (.lst xs)/\hid a=S1/\c.mu a=S1/\Reps K (vw H hid) xs ds
 | .ob b=> ∃a,σ[i]? =p5 (p5 (.ref a))/\ri K c hid H a b
def Ow:Option Sl->Prop
 |some (.own _)=>True
 |some (.arg _)=>True
 |some (.ob b)=>uX b
 |_=>False
structure SR(K:SA)(c:Ct)(hid:bC)(ρ:aB)(σ:St)(H:Hp):Prop where
 tr: ∀b,hid b=S1-> ∃o,H b=p5 o
 ht: ∀b xs,hid b=S1->H b≠p5 (.tup xs)
 h0: ∀b,c.hid₀ b=S1->hid b=S1
 kp: ∀b o,c.H₀ b=p5 o->c.mu b=Pa->H b=p5 o
 t0: ∀b o,c.H₀ b=p5 o-> ∃o',H b=p5 o'
 c0: ∀b,c.hid₀ b=S1-> ∃o,c.H₀ b=p5 o
 m0: ∀b,c.mu b=S1->c.hid₀ b=S1
 len:σ.length=ρ.length
 sl: ∀(i:Nat) (s:Sl),ρ[i]? =p5 s->uv K c hid σ H i s
 ap: ∀(i j:Nat) (a:Addr),i≠j->Ow ρ[i]? ->Ow ρ[j]? ->σ[i]? =p5 (p5 (.ref a))->σ[j]? =p5 (p5 (.ref a))->False
section
variable {K:SA}{c:Ct}{hid:bC}{σ:St}{H:Hp}
theorem uv.ext(h:uv K c hid σ H i s)(e:ab H H'):uv K c hid σ H' i s:=by
 cases s with
 |no=>trivial
 |v d=>obtain⟨x,g,f⟩:=h;exact⟨x,g,f.mono (aC e)⟩
 |own ds=>obtain⟨a,xs,g,f,j,l,k⟩:=h;exact⟨a,xs,g,e _ _ f,j,l,k.mono (aC e)⟩
 |arg ds=>obtain⟨a,xs,g,f,j,l,k⟩:=h;exact⟨a,xs,g,e _ _ f,j,l,k.mono (aC e)⟩
 |ob b=>obtain⟨a,g,f⟩:=h;exact⟨a,g,f.mono (λ_ x _=>e x) (aC e) λ_ _ _ q=>q⟩
theorem SR.ext(h:SR K c hid ρ σ H)(e:ab H H'):SR K c hid ρ σ H' where
 tr:=λb a=>let⟨o,q⟩:=h.tr b a;⟨o,e _ _ q⟩
 ht:=λb xs a q=>let⟨o,w⟩:=h.tr b a;by have z:=e _ _ w;rw[q] at z;cases z;exact h.ht b xs a w
 h0:=h.h0
 kp:=λb o q m=>e _ _ (h.kp b o q m)
 t0:=λb o q=>let⟨o',q'⟩:=h.t0 b o q;⟨o',e _ _ q'⟩
 c0:=h.c0
 m0:=h.m0
 len:=h.len
 sl:=λi s q=>(h.sl i s q).ext e
 ap:=h.ap
def P5(hid:bC)(H:Hp):Prop:=(∀b,hid b=S1-> ∃o,H b=p5 o)/\ ∀b xs,hid b=S1->H b≠p5 (.tup xs)
theorem SR.trk(h:SR K c hid ρ σ H):P5 hid H:=⟨h.tr,h.ht⟩
theorem SR.fresh(h:SR K c hid ρ σ H){a:Addr}(n:H a=Sr):hid a=false:=by
 cases e:hid a with
 |false=>rfl
 |true=>obtain⟨o,q⟩:=h.tr a e;nofun
theorem SR.fresh0(h:SR K c hid ρ σ H)(n:H a=Sr):c.H₀ a=none:=by
 cases e:c.H₀ a with
 |none=>rfl
 |some o=>obtain⟨o',q⟩:=h.t0 a o e;nofun
end
inductive Kd where
 |b|s|n
 deriving DecidableEq
def eb(K:SA)(H W:Hp)(v:V)(d:D):Prop:=Rep K W v d\/ ∃a xs ds,v=.ref a/\d=.lst ds/\H a=p5 (.lst xs)/\Reps K W xs ds
def RN(K:SA)(H b:Hp)(hid:bC)(v:V)(d:D):Prop:= ∃a xs ds,d=.lst ds/\v=.ref a/\H a=Sr/\b a=p5 (.lst xs)/\Reps K (vw b (bA hid a)) xs ds
def RK(K:SA)(k:Kd)(H a:Hp)(hid:bC)(v:V)(d:D):Prop:=match k with
 | .b=>eb K a (vw a hid) v d
 | .s=>Rep K (vw a hid) v d
 | .n=>RN K H a hid v d
section
variable {K:SA}
theorem RN.rep(h:RN K H H' hid v d)(g: ∀a,H a=Sr->hid a=Pa):Rep K (vw H' hid) v d:=by
 obtain⟨a,xs,ds,rfl,rfl,e,c,f⟩:=h;refine .lst (cW.mpr ⟨g a e,c⟩) (f.mono (fy λb q=>?_));unfold bA;rw[q];rfl
theorem RK.b(k:Kd)(h:RK K k H H' hid v d)(c: ∀a,H a=Sr->hid a=Pa):eb K H' (vw H' hid) v d:=by
 cases k with
 |b=>exact h
 |s=>exact .inl h
 |n=>exact .inl (RN.rep h c)
theorem eb.ext {hid:bC}(h:eb K H (vw H hid) v d)(e:ab H H'):eb K H' (vw H' hid) v d:=by
 rcases h with h|⟨a,xs,ds,c,b,f,g⟩
 ·exact .inl (h.mono (aC e))
 ·exact .inr ⟨a,xs,ds,c,b,e _ _ f,g.mono (aC e)⟩
theorem eb.int {i:Int}(h:eb K H (vw H hid) v (.int i)):v=.int i:=by
 rcases h with h|⟨a,xs,ds,c,b,_⟩
 ·cases h;rfl
 nofun
theorem eb.bl {i:Bool}(h:eb K H (vw H hid) v (.bl i)):v=.bl i:=by
 rcases h with h|⟨a,xs,ds,c,b,_⟩
 ·cases h;rfl
 nofun
theorem eb.str {i:Str}(h:eb K H (vw H hid) v (.str i)):v=.str i:=by
 rcases h with h|⟨a,xs,ds,c,b,_⟩
 ·cases h;rfl
 nofun
theorem eb.non(h:eb K H (vw H hid) v .non):v=.non:=by
 rcases h with h|⟨a,xs,ds,c,b,_⟩
 ·cases h;rfl
 nofun
theorem eb.tup(h:eb K H (vw H hid) v (.tup ds)): ∃a xs,v=.ref a/\vw H hid a=p5 (.tup xs)/\SqT K H a xs/\Reps K (vw H hid) xs ds:=by
 rcases h with h|⟨a,xs,ds,c,b,_⟩
 ·cases h with
  |tup q r=>exact⟨_,_,rfl,q,SqT.of (bU _ _ _ _ q),r⟩
 nofun
theorem eb.lst(h:eb K H (vw H hid) v (.lst ds)): ∃a xs,v=.ref a/\SqL K H a xs/\Reps K (vw H hid) xs ds:=by
 rcases h with h|⟨a,xs,ds,c,b,d,e⟩
 ·cases h with
  |lst q r=>exact⟨_,_,rfl,SqL.of (bU _ _ _ _ q),r⟩
 ·cases b;exact⟨a,xs,c,SqL.of d,e⟩
theorem eb.scr(h:eb K H (vw H hid) v (.scr ds)): ∃a xs,v=.ref a/\SqL K H a xs/\Reps K (vw H hid) xs ds:=by
 rcases h with h|⟨a,xs,ds,c,b,d,e⟩
 ·cases h with
  |scr q r=>exact⟨_,_,rfl,(bU _ _).seq q.seq,r⟩
 nofun
end
theorem PE.imp {X:Cx}(h:PE X e t)(i: ∀σ H Q,t' σ H Q->t σ H Q):PE X e t':=λa s σ H Q I q=>h a s σ H Q I (i σ H Q q)
theorem PT.imp {X:Cx}(h:PT X e t)(i: ∀σ H Q,t' σ H Q->t σ H Q):PT X e t':=λa s σ H Q I q=>h a s σ H Q I (i σ H Q q)
theorem PW.imp {X:Cx}(h:PW X e t)(i: ∀σ H Q,t' σ H Q->t σ H Q):PW X e t':=λb a s σ H Q I q=>h b a s σ H Q I (i σ H Q q)
theorem PA.imp {X:Cx}(h:PA X e t)(i: ∀σ H Q,t' σ H Q->t σ H Q):PA X e t':=λp a s σ H Q I q=>h p a s σ H Q I (i σ H Q q)
theorem PS.imp {X:Cx}(h:PS X e t)(i: ∀D σ H,t' D σ H->t D σ H):PS X e t':=λa s σ H D I q=>h a s σ H D I (i D σ H q)
theorem PSs.imp {X:Cx}(h:PSs X e t)(i: ∀D σ H,t' D σ H->t D σ H):PSs X e t':=λa s σ H D I q=>h a s σ H D I (i D σ H q)
abbrev FE:=aB->Option D
abbrev FT:=aB->Option Bool
abbrev FA:=aB->Option (List D)
def Mp(K:SA)(c:Ct)(hid:bC)(k:Kd)(f:FE)(ρ:aB):TE:=λσ H Q=>SR K c hid ρ σ H/\ ∃d,f ρ=p5 d/\ ∀v a,ab H a->RK K k H a hid v d->Q v a
def Ri(K:SA)(c:Ct)(hid:bC)(f:FT)(ρ:aB):TT:=λσ H Q=>SR K c hid ρ σ H/\ ∃d,f ρ=p5 d/\ ∀a,ab H a->Q d a
def R8(K:SA)(c:Ct)(hid:bC)(f:FA)(ρ:aB):TA:=λσ H Q=>SR K c hid ρ σ H/\ ∃d,f ρ=p5 d/\ ∀vs a,ab H a->Reps K (vw a hid) vs d->Q vs a
def DP(X:Cx)(c:Ct)(k:Kd)(e:Expr)(f:FE):Prop:= ∀hid ρ,PE X e (Mp X.K c hid k f ρ)
def DT(X:Cx)(c:Ct)(e:Expr)(f:FT):Prop:= ∀hid ρ,PT X e (Ri X.K c hid f ρ)
def DW(X:Cx)(c:Ct)(e:Expr)(f:FT):Prop:= ∀hid ρ,PW X e (Ri X.K c hid f ρ)
def DA(X:Cx)(c:Ct)(es:List Expr)(f:FA):Prop:= ∀hid ρ,PA X es (R8 X.K c hid f ρ)
section
variable {X:Cx}{a b:Expr}{f g:FE}{k:Kd}
theorem DP.toS(h:DP X c .n e f):DP X c .s e f:=λhid ρ=>PE.imp (h hid ρ) λσ H Q ⟨b,d,g,q⟩=>⟨b,d,g,λv i s r=>q v i s (RN.rep r λa n=>b.fresh n)⟩
def ah(i:Nat):FE:=λρ=>match ρ[i]? with
 |some (.v d)=>p5 d
 |_=>Sr
def cR(i:Nat):FE:=λρ=>match ρ[i]? with
 |some (.v d)=>p5 d
 |some (.own ds)=>p5 (.lst ds)
 |some (.arg ds)=>p5 (.lst ds)
 |_=>Sr
theorem ae(i:Nat)(j:X.N[i]? =p5 x:=by rfl)(hv:lW X.env.scope x:=by first|exact TL rfl|exact Te (TL rfl)|exact Te (Te rfl))(a:(x==("__debug__":Str))=false:=by decide)
 (b:(x==("__classdict__":Str))=false:=by decide):DP X c .s (.Name x pos) (ah i):=λhid ρ=>PE.imp (pv i j hv a b) λσ H Q e=>by
 obtain⟨h,d,a,q⟩:=e;unfold ah at a;split at a
 ·rename_i d' k
  cases a;obtain⟨x,g,f⟩:=h.sl i _ k;exact⟨x,g,q x H (ab.refl _) f⟩
 nofun
theorem cB(i:Nat)(o:X.N[i]? =p5 x:=by rfl)(hv:lW X.env.scope x:=by first|exact TL rfl|exact Te (TL rfl)|exact Te (Te rfl))(e:(x==("__debug__":Str))=false:=by decide)
 (l:(x==("__classdict__":Str))=false:=by decide):DP X c .b (.Name x pos) (cR i):=λhid ρ=>PE.imp (pv i o hv e l) λσ H Q m=>by
 obtain⟨k,d,e,q⟩:=m;unfold cR at e;split at e
 ·rename_i d' h
  cases e;obtain⟨x,g,f⟩:=k.sl i _ h;exact⟨x,g,q x H (ab.refl _) (.inl f)⟩
 ·rename_i d' h
  cases e;obtain⟨a,xs,g,f,n,p,j⟩:=k.sl i _ h;exact⟨_,g,q _ H (ab.refl _) (.inr ⟨a,xs,_,rfl,rfl,f,j⟩)⟩
 ·rename_i d' h
  cases e;obtain⟨a,xs,g,f,n,p,j⟩:=k.sl i _ h;exact⟨_,g,q _ H (ab.refl _) (.inr ⟨a,xs,_,rfl,rfl,f,j⟩)⟩
 nofun
def aH(d:D):FE:=λ_=>p5 d
theorem aq{j pos}:DP X c .s (.Constant (.int i) j pos) (aH (.int i)):=λhid ρ=>PE.imp NP λσ H Q a=>by
 obtain⟨e,d,b,q⟩:=a;cases b;exact q _ H (ab.refl _) .int
theorem sx{j pos}:DP X c .s (.Constant (.bool i) j pos) (aH (.bl i)):=λhid ρ=>PE.imp Pp λσ H Q a=>by
 obtain⟨e,d,b,q⟩:=a;cases b;exact q _ H (ab.refl _) .bl
def ar(F:D->D->Option D)(f g:FE):FE:=λρ=>(f ρ).bind λx=>(g ρ).bind λy=>F x y
theorem xH(h:ar F f g ρ=p5 d): ∃x y,f ρ=p5 x/\g ρ=p5 y/\F x y=p5 d:=by
 unfold ar at h;cases e1:f ρ with
 |none=>nofun
 |some x=>
  cases e2:g ρ with
  |none=>nofun
  |some y=>rw[e1,e2] at h;exact⟨x,y,rfl,rfl,h⟩
def rH(K:SA)(k:Kd)(r:R2)(F:D->D->Option D):Prop:= ∀(H:Hp) (hid:bC) (v u:V) (x y d:D) (Q:VK),(∀a,H a=Sr->hid a=Pa)->F x y=p5 d->eb K H (vw H hid) v x->eb K H (vw H hid) u y->
 (∀w b,ab H b->RK K k H b hid w d->Q w b)->r v u H Q
theorem RK.left {K:SA}(s:ab H H1)(h:RK K k H1 H' hid v d):RK K k H H' hid v d:=by
 cases k with
 |b=>exact h
 |s=>exact h
 |n=>
  obtain⟨a,xs,ds,f,c,e,g⟩:=h;exact⟨a,xs,ds,f,c,s.free e,g⟩
theorem Qe{F:D->D->Option D}(G:rH X.K k r F){H:Hp}(h:Mp X.K c hid k (ar F f g) ρ σ H Q):N2 r (Mp X.K c hid k1 f ρ) (Mp X.K c hid k2 g ρ) σ H Q:=by
 obtain⟨i,d,A,q⟩:=h;obtain⟨x,y,o,z,C⟩:=xH A;refine⟨i,x,o,λv J e I=>⟨i.ext e,y,z,λu t j E=>?_⟩⟩;have p:=(RK.b k1 I λa n=>i.fresh n).ext j;have l:=RK.b k2 E λa n=>(i.ext e).fresh n
 exact G t hid v u x y d Q (λa n=>((i.ext e).ext j).fresh n) C p l λw m s B=>q w m ((e.trans j).trans s) (RK.left (e.trans j) B)
theorem kE(e:kZ X (Vt op) r)(j:rH X.K k r F)(d:DP X c k1 a f)(i:DP X c k2 b g):DP X c k (.BinOp a op b pos) (ar F f g):=λhid ρ=>
 PE.imp (D4 e (d hid ρ) (i hid ρ)) λσ H Q h=>Qe j h
theorem fK(j:kZ X (U0 op) r)(k:rH X.K .s r F)(i:DP X c k1 a f)(d:DP X c k2 b g)(e:UV op b=Pa):DP X c .s (.Compare a [op] [b] pos) (ar F f g):=λhid ρ=>
 PE.imp (Kx j (i hid ρ) (d hid ρ) e) λσ H Q h=>Qe k h
def DL:Option D->Option Bool
 |some (.bl b)=>p5 b
 |_=>Sr
theorem bD(p:kZ X (U0 op) r)(t:rH X.K .s r F)(n:DP X c k1 a f)(l:DP X c k2 b g)(m:UV op b=Pa):DT X c (.Compare a [op] [b] pos) (λρ=>DL (ar F f g ρ)):=λhid ρ=>
 PT.imp (Jz p (n hid ρ) (l hid ρ) m) λσ H Q i=>by
  obtain⟨o,d,h,q⟩:=i;refine Qe (X:=X) (k:=.s) (F:=F) t ?_
  dsimp only at h;cases e:ar F f g ρ with
  |none=>rw[e] at h;cases h
  |some x=>
   rw[e] at h;cases x with
   |bl z=>
    cases h;refine⟨o,_,e,λv j s r=>⟨d,?_,q j s⟩⟩;cases r;rfl
   |_=>cases h
theorem aO(l:IxR X r)(j:rH X.K k r F)(i:DP X c k1 a f)(d:DP X c k2 b g)(e:Bn b):DP X c k (.Subscript a b pos) (ar F f g):=λhid ρ=>
 PE.imp (O3 l (i hid ρ) (d hid ρ) e) λσ H Q h=>Qe j h
end
def i2(C:Int->Int->Bool)(G:Int->Int->D):D->D->Option D
 | .int i,.int j=>if C i j=S1 then p5 (G i j) else Sr
 |_,_=>Sr
section
variable {K:SA}
theorem vo(h:i2 C G x y=p5 d): ∃i j,x=.int i/\y=.int j/\C i j=S1/\d=G i j:=by
 unfold i2 at h;grind
theorem Hh{g:Int->Int->Int}(c: ∀i j,B i j=S1->C i j):rH K .s (rI C λi j=>.int (g i j)) (i2 B λi j=>.int (g i j)):=by
 intro H hid v u x y d Q f h e b q;obtain⟨i,j,rfl,rfl,a,rfl⟩:=vo h;cases e.int;cases b.int;exact⟨i,j,rfl,rfl,c i j a,q _ H (ab.refl _) .int⟩
theorem AS {g:Int->Int->Int}:rH K .s (EK λi j=>.int (g i j)) (i2 (λ_ _=>S1) λi j=>.int (g i j)):=by
 intro H hid v u x y d Q c h b a q;obtain⟨i,j,rfl,rfl,e,rfl⟩:=vo h;cases b.int;cases a.int;exact⟨i,j,rfl,rfl,q _ H (ab.refl _) .int⟩
theorem dP {g:Int->Int->Bool}:rH K .s (EK λi j=>.bl (g i j)) (i2 (λ_ _=>S1) λi j=>.bl (g i j)):=by
 intro H hid v u x y d Q c h b a q;obtain⟨i,j,rfl,rfl,e,rfl⟩:=vo h;cases b.int;cases a.int;exact⟨i,j,rfl,rfl,q _ H (ab.refl _) .bl⟩
end
section
variable {X:Cx}{a b:Expr}{rest:List Expr}{f:FE}{p q:FT}
def Kh:D->Option Bool
 | .non=>p5 Pa
 | .bl b=>p5 b
 | .int i=>p5 (i !=0)
 | .str y=>if y.length<=SU then p5 ((y.length:Int) !=0) else Sr
 | .lst ds=>p5 (!ds.isEmpty)
 | .tup ds=>p5 (!ds.isEmpty)
 | .scr ds=>p5 (!ds.isEmpty)
 | .dct _ _=>Sr
theorem Reps.isEmpty {K:SA}{xs:List V}{ds:List D}(r:Reps K F xs ds):xs.isEmpty=ds.isEmpty:=by cases r<;>rfl
theorem Mj {K:SA}{b:Bool}(h:Kh d=p5 b)(r:eb K H (vw H hid) v d):NB K v H b:=by
 cases d with
 |non=>cases r.non;cases h;rfl
 |bl x=>cases r.bl;cases h;rfl
 |int i=>cases r.int;cases h;rfl
 |str y=>
  cases r.str;have h':(if y.length<=SU then some ((y.length:Int) !=0) else none)=some b:=h;split at h'
  ·cases h';exact⟨‹_›,rfl⟩
  nofun
 |lst ds=>
  obtain⟨a,xs,rfl,e,c⟩:=r.lst;cases h;exact .inl ⟨xs,e,by rw[c.isEmpty]⟩
 |tup ds=>
  obtain⟨a,xs,rfl,_,e,c⟩:=r.tup;cases h;exact .inr (.inl ⟨xs,e,by rw[c.isEmpty]⟩)
 |scr ds=>
  obtain⟨a,xs,rfl,e,c⟩:=r.scr;cases h;exact .inl ⟨xs,e,by rw[c.isEmpty]⟩
 |dct _ _=>cases h
def ir(f:FE):FT:=λρ=>(f ρ).bind Kh
theorem j6(m:DP X c k a f)(o: ∀g,isTrue a X.env g=(do let v <-g;YG a.pos;WZ [v] (truthy v)):=by intro _;rfl):DT X c a (ir f):=λhid ρ=>
 PT.imp (FR (m hid ρ) o) λσ H Q i=>by
  obtain⟨j,d,h,q⟩:=i;unfold ir at h;cases e:f ρ with
  |none=>nofun
  |some x=>
   rw[e] at h;exact⟨j,x,e,λv l s r=>⟨d,Mj h (RK.b k r λa n=>j.fresh n),q l s⟩⟩
def eR(p q:FT):FT:=λρ=>(p ρ).bind λb=>if b=S1 then q ρ else p5 Pa
def xQ(p q:FT):FT:=λρ=>(p ρ).bind λb=>if b=S1 then p5 S1 else q ρ
def lI(p:FT):FT:=λρ=>(p ρ).map (!·)
theorem i0(b:DT X c a p):DW X c (.BoolOp .And [a] pos) p:=λhid ρ=>u6 (b hid ρ)
theorem yg(b:DT X c a p):DW X c (.BoolOp .Or [a] pos) p:=λhid ρ=>vn (b hid ρ)
theorem mw(ha:DT X c a p)(hb:DW X c (.BoolOp .And (b::rest) pos) q):DW X c (.BoolOp .And (a::b::rest) pos) (eR p q):=λhid ρ=>
 PW.imp (vm (ha hid ρ) (hb hid ρ)) λσ H Q hq_=>by
  obtain⟨sr,d,hd,hq⟩:=hq_;unfold eR at hd;cases e:p ρ with
  |none=>nofun
  |some x=>
   rw[e] at hd;refine⟨sr,x,e,λH1 s1=>?_⟩;cases x with
   |true=>exact Kg ⟨sr.ext s1,d,hd,λH2 s2=>hq H2 (s1.trans s2)⟩
   |false=>nofun
theorem Ao(ha:DT X c a p)(hb:DW X c (.BoolOp .Or (b::rest) pos) q):DW X c (.BoolOp .Or (a::b::rest) pos) (xQ p q):=λhid ρ=>
 PW.imp (vr (ha hid ρ) (hb hid ρ)) λσ H Q hq_=>by
  obtain⟨sr,d,hd,hq⟩:=hq_;unfold xQ at hd;cases e:p ρ with
  |none=>nofun
  |some x=>
   rw[e] at hd;refine⟨sr,x,e,λH1 s1=>?_⟩;cases x with
   |false=>exact Jf ⟨sr.ext s1,d,hd,λH2 s2=>hq H2 (s1.trans s2)⟩
   |true=>nofun
theorem DW.dt(h:DW X c e p):DT X c e p:=λhid ρ=>(h hid ρ).pt
theorem ym(h:DT X c a p):DT X c (.UnaryOp .Not a pos) (lI p):=λhid ρ=>
 PT.imp (Mo (h hid ρ)) λσ H Q f=>by
  obtain⟨i,d,b,k⟩:=f;unfold lI at b;cases e:p ρ with
  |none=>nofun
  |some x=>rw[e] at b;cases b;exact⟨i,x,e,λg j=>k g j⟩
def AR(p:FT):FE:=λρ=>(p ρ).map D.bl
def bJ(f:FE):FT:=λρ=>DL (f ρ)
theorem oV{b:Bool}(h:bJ f ρ=p5 b):f ρ=p5 (.bl b):=by
 unfold bJ DL at h;grind
theorem mx(ha:DP X c .s a f)(hb:DP X c .s (.BoolOp .And (b::rest) pos) g):DP X c .s (.BoolOp .And (a::b::rest) pos) (AR (eR (bJ f) (bJ g))):=λhid ρ=>
 PE.imp (LY (ha hid ρ) (hb hid ρ)) λσ H Q hq_=>by
  obtain⟨sr,d,hd,hq⟩:=hq_;unfold AR eR at hd;cases e:bJ f ρ with
  |none=>nofun
  |some x=>
   rw[e] at hd;refine⟨sr,_,oV e,λv H1 s1 r=>?_⟩;cases r;refine⟨x,rfl,?_⟩;cases x with
   |true=>
    refine Kg ?_
    cases e2:bJ g ρ with
    |none=>nofun
    |some y=>
     rw[show(p5 true:Option Bool).bind (λb=>if b=S1 then bJ g ρ else p5 Pa)=bJ g ρ from rfl,e2] at hd;cases hd;exact⟨sr.ext s1,_,oV e2,λv2 H2 s2 r2=>hq v2 H2 (s1.trans s2) r2⟩
   |false=>cases hd;exact Jf (hq _ H1 s1 .bl)
theorem l7 {op}(h:DP X c k a f):DP X c k (.BoolOp op [a] pos) f:=λhid ρ=>MD (h hid ρ)
theorem yy(i:DP X c .s a f):DP X c .s (.UnaryOp .Not a pos) (AR (lI (bJ f))):=λhid ρ=>
 PE.imp (NC (i hid ρ)) λσ H Q g=>by
  obtain⟨j,d,b,l⟩:=g;unfold AR lI at b;cases e:bJ f ρ with
  |none=>nofun
  |some x=>
   rw[e] at b;cases b;refine⟨j,_,oV e,λv h k r=>?_⟩;cases r;exact⟨x,rfl,l _ h k .bl⟩
end
section
variable {X:Cx}{c:Ct}{a b:Expr}{es:List Expr}{f:FE}{k:Kd}
def aj:FA:=λ_=>p5 []
def af(f:FE)(a:FA):FA:=λρ=>(f ρ).bind λd=>(a ρ).map λr=>d::r
theorem qE(h:af f fs ρ=p5 ds): ∃d r,f ρ=p5 d/\fs ρ=p5 r/\ds=d::r:=by
 unfold af at h;cases e1:f ρ with
 |none=>nofun
 |some d=>
  cases e2:fs ρ with
  |none=>nofun
  |some r=>grind
theorem ak:DA X c [] aj:=λhid ρ=>PA.imp bW λσ H Q ⟨b,d,a,q⟩=>by cases a;exact q [] H (ab.refl _) .nil
theorem ag(p:DP X c .s e f)(n:DA X c es fs)(i:SF (e::es) X.env=(Pa,eval e X.env)::SF es X.env:=by rfl):DA X c (e::es) (af f fs):=λhid ρ=>
 PA.imp (bn (p hid ρ) (n hid ρ) i) λσ H Q a=>by
  obtain⟨g,d,m,q⟩:=a;obtain⟨t,r,j,l,rfl⟩:=qE m;exact⟨g,t,j,λv w b u=>⟨g.ext b,r,l,λvs k h o=>q _ k (b.trans h) (.cons (Rep.mono (aC h) u) o)⟩⟩
def cQ(a:FA):FE:=λρ=>(a ρ).bind λds=>if ds.length<=SU then p5 (.tup ds) else Sr
def cD(a:FA):FE:=λρ=>(a ρ).bind λds=>if ds.length<=SU then p5 (.lst ds) else Sr
theorem Dj(h:cQ fs ρ=p5 d): ∃ds,fs ρ=p5 ds/\ds.length<=SU/\d=.tup ds:=by
 unfold cQ at h;cases e1:fs ρ with
 |none=>nofun
 |some ds=>
  nofun
theorem Dd(h:cD fs ρ=p5 d): ∃ds,fs ρ=p5 ds/\ds.length<=SU/\d=.lst ds:=by
 unfold cD at h;cases e1:fs ρ with
 |none=>nofun
 |some ds=>
  nofun
theorem aJ(h:H p=Sr)(o:HO):ab H (aW H p o):=λb u q=>by rw[az (bF q h)];exact q
theorem gL {K:SA}(a:H p=Sr)(b:hid p=Pa)(r:Reps K (vw H hid) xs ds):Rep K (vw (aW H p (.tup xs)) hid) (.ref p) (.tup ds):=
 .tup (cW.mpr ⟨b,aA⟩) (r.mono (aC (aJ a _)))
theorem fH {K:SA}{hid:bC}(a:H p=Sr)(s:ab H0 H)(r:Reps K (vw H hid) xs ds):RN K H0 (aW H p (.lst xs)) hid (.ref p) (.lst ds):=
 ⟨p,xs,ds,rfl,rfl,s.free a,aA,by rw[uJ a];exact r⟩
theorem cf {x1}(h:DA X c es fs):DP X c .s (.Tuple es x1 pos) (cQ fs):=λhid ρ=>PE.imp (Fc (h hid ρ)) λσ H Q b=>by
 obtain⟨f,d,j,q⟩:=b;obtain⟨ds,i,hz,rfl⟩:=Dj j;exact⟨f,ds,i,λvs k e g=>⟨by rw[g.length];exact hz,λp a=>q _ _ (e.trans (aJ a _)) (gL a ((f.ext e).fresh a) g)⟩⟩
theorem df(h:DA X c es fs):DP X c .n (.List es pos) (cD fs):=λhid ρ=>PE.imp (HC (h hid ρ)) λσ H Q a=>by
 obtain⟨j,d,i,q⟩:=a;obtain⟨ds,g,hz,rfl⟩:=Dd i;exact⟨j,ds,g,λvs k b f=>⟨by rw[f.length];exact hz,λp e=>q _ _ (b.trans (aJ e _)) (fH e b f)⟩⟩
abbrev ej(K:SA)(H W:Hp):List V->List D->Prop:=Paired (eb K H W)
def RP(K:SA)(c:Ct)(hid:bC)(f:FA)(ρ:aB):TA:=λσ H Q=>SR K c hid ρ σ H/\ ∃d,f ρ=p5 d/\ ∀vs a,ab H a->ej K a (vw a hid) vs d->Q vs a
def DB(X:Cx)(c:Ct)(es:List Expr)(f:FA):Prop:= ∀hid ρ,PA X es (RP X.K c hid f ρ)
theorem aX:DB X c [] aj:=λhid ρ=>PA.imp bW λσ H Q ⟨b,d,a,q⟩=>by cases a;exact q [] H (ab.refl _) .nil
theorem aI(w:DP X c k e f)(t:DB X c es fs)(l:SF (e::es) X.env=(Pa,eval e X.env)::SF es X.env:=by rfl):DB X c (e::es) (af f fs):=λhid ρ=>
 PA.imp (bn (w hid ρ) (t hid ρ) l) λσ H Q h=>by
  obtain⟨g,d,s,q⟩:=h;obtain⟨x,r,m,p,rfl⟩:=qE s;exact⟨g,x,m,λv z i y=>⟨g.ext i,r,p,λvs o j u=>q _ o (i.trans j) (.cons ((RK.b k y λa n=>g.fresh n).ext j) u)⟩⟩
def gR(K:SA)(k:Kd)(r:List V->Hp->VK->Prop)(F:List D->Option D):Prop:= ∀(H:Hp) (hid:bC) (vs:List V) (ds:List D) (d:D) (Q:VK),(∀a,H a=Sr->hid a=Pa)->F ds=p5 d->ej K H (vw H hid) vs ds->
 (∀w b,ab H b->RK K k H b hid w d->Q w b)->r vs H Q
def au(F:List D->Option D)(a:FA):FE:=λρ=>(a ρ).bind F
theorem qa(h:au F fs ρ=p5 d): ∃ds,fs ρ=p5 ds/\F ds=p5 d:=by
 unfold au at h;cases e1:fs ρ with
 |none=>nofun
 |some ds=>rw[e1] at h;exact⟨ds,rfl,h⟩
theorem Oy(p:gR X.K k r F){H:Hp}(h:Mp X.K c hid k (au F fs) ρ σ H Q):Qn r (RP X.K c hid fs ρ) σ H Q:=by
 obtain⟨e,d,l,q⟩:=h;obtain⟨ds,i,j⟩:=qa l;exact⟨e,ds,i,λvs f b s=>p f hid vs ds d Q (λa n=>(e.ext b).fresh n) j s λw g m o=>q w g (b.trans m) (RK.left b o)⟩
variable {id:String}
theorem aR(j:cO X (.builtin id) r)(l:gR X.K k r F)(d:X.mg x=Sr)(i:DB X c (e::es) fs)(g:Gl X x:=by rfl)(hv:T3 x=p5 (.builtin id):=by first|exact jcX|rfl|kernel_rfl)(f:x≠"__name__":=by decide)(b:(x==("__debug__":Str))=false:=by decide)
 (m:SF (e::es) X.env=(Pa,eval e X.env)::SF es X.env:=by rfl) (a:(Ul pos (SF es X.env)).any (·.1)=false:=by rfl):DP X c k (.Call (.Name x p) (e::es) [] pos) (au F fs):=λhid ρ=>
 PE.imp (fS j g d hv (i hid ρ) f b m a) λσ H Q h=>Oy l h
theorem cb(f:cO X (.type T) r)(i:gR X.K k r F)(g:X.mg x=Sr)(d:DB X c (e::es) fs)(m:Gl X x:=by rfl)(hv:T3 x=p5 (.type T):=by first|rfl|kernel_rfl)(j:x≠"__name__":=by decide)(b:(x==("__debug__":Str))=false:=by decide)
 (l:SF (e::es) X.env=(Pa,eval e X.env)::SF es X.env:=by rfl) (a:(Ul pos (SF es X.env)).any (·.1)=false:=by rfl):DP X c k (.Call (.Name x p) (e::es) [] pos) (au F fs):=λhid ρ=>
 PE.imp (fD f m g hv (d hid ρ) j b l a) λσ H Q h=>Oy i h
end
section
variable {K:SA}
theorem ej.one(r:ej K H W v [d]): ∃x,v=[x]/\eb K H W x d:=by
 cases r with
 |cons r t=>cases t;exact⟨_,rfl,r⟩
theorem ej.two(r:ej K H W v [d,d']): ∃x y,v=[x,y]/\eb K H W x d/\eb K H W y d':=by
 cases r with
 |cons r t=>cases t with
  |cons a t=>cases t;lia
def dO:List D->Option D
 | [.lst ds]=>p5 (.int ds.length)
 | [.tup ds]=>p5 (.int ds.length)
 | [.scr ds]=>p5 (.int ds.length)
 |_=>Sr
theorem ck:gR K .s (λxs H Q=> ∃p ys,xs=[.ref p]/\(SqL K H p ys\/SqT K H p ys)/\Q (.int ys.length) H) dO:=by
 intro H hid vs ds d Q f h r q;unfold dO at h;split at h
 ·cases h;obtain⟨x,rfl,e⟩:=ej.one r;obtain⟨a,xs,rfl,c,b⟩:=e.lst;exact⟨a,xs,rfl,.inl c,by rw[b.length];exact q _ H (ab.refl _) .int⟩
 ·cases h;obtain⟨x,rfl,e⟩:=ej.one r;obtain⟨a,xs,rfl,_,c,b⟩:=e.tup;exact⟨a,xs,rfl,.inr c,by rw[b.length];exact q _ H (ab.refl _) .int⟩
 ·cases h;obtain⟨x,rfl,e⟩:=ej.one r;obtain⟨a,xs,rfl,c,b⟩:=e.scr;exact⟨a,xs,rfl,.inl c,by rw[b.length];exact q _ H (ab.refl _) .int⟩
 nofun
def yv:List D->Option D
 | [.int i]=>p5 (.int (if i<0 then -i else i))
 |_=>Sr
theorem Mz:gR K .s (λxs H Q=> ∃i,xs=[.int i]/\Q (.int (if i<0 then -i else i)) H) yv:=by
 intro H hid vs ds d Q b h r q;unfold yv at h;split at h
 ·cases h;obtain⟨x,rfl,a⟩:=ej.one r;cases a.int;exact⟨_,rfl,q _ H (ab.refl _) .int⟩
 nofun
def rX:List D->Option D
 | [.int i,.int j]=>p5 (.int (if j<i then j else i))
 |_=>Sr
theorem JT:gR K .s (λxs H Q=> ∃i j,xs=[.int i,.int j]/\Q (.int (if j<i then j else i)) H) rX:=by
 intro H hid vs ds d Q c h r q;unfold rX at h;split at h
 ·cases h;obtain⟨x,y,rfl,b,a⟩:=ej.two r;cases b.int;cases a.int;exact⟨_,_,rfl,q _ H (ab.refl _) .int⟩
 nofun
def wS:List D->Option D
 | [.lst ds]=>p5 (.lst ds)
 | [.tup ds]=>p5 (.lst ds)
 |_=>Sr
theorem Br:gR K .n (λxs H Q=> ∃p ys,xs=[.ref p]/\(SqL K H p ys\/SqT K H p ys)/\ ∀l,H l=Sr->Q (.ref l) (aW H l (.lst ys))) wS:=by
 intro H hid vs ds d Q g h r q;unfold wS at h;split at h
 ·cases h;obtain⟨x,rfl,f⟩:=ej.one r;obtain⟨a,xs,rfl,e,c⟩:=f.lst;exact⟨a,xs,rfl,.inl e,λl b=>q _ _ (aJ b _) (fH b (ab.refl _) c)⟩
 ·cases h;obtain⟨x,rfl,f⟩:=ej.one r;obtain⟨a,xs,rfl,_,e,c⟩:=f.tup;exact⟨a,xs,rfl,.inr e,λl b=>q _ _ (aJ b _) (fH b (ab.refl _) c)⟩
 nofun
def g9:List D->Option D
 | [.lst ds]=>p5 (.tup ds)
 | [.tup ds]=>p5 (.tup ds)
 |_=>Sr
theorem iL:gR K .s (λxs H Q=> ∃p ys,xs=[.ref p]/\((SqL K H p ys/\ ∀l,H l=Sr->Q (.ref l) (aW H l (.tup ys)))\/(SqT K H p ys/\Q (.ref p) H))) g9:=by
 intro H hid vs ds d Q g h r q;unfold g9 at h;split at h
 ·cases h;obtain⟨x,rfl,f⟩:=ej.one r;obtain⟨a,xs,rfl,c,b⟩:=f.lst;exact⟨a,xs,rfl,.inl ⟨c,λl e=>q _ _ (aJ e _) (gL e (g l e) b)⟩⟩
 ·cases h;obtain⟨x,rfl,f⟩:=ej.one r;obtain⟨a,xs,rfl,i,c,b⟩:=f.tup;exact⟨a,xs,rfl,.inr ⟨c,q _ H (ab.refl _) (.tup i b)⟩⟩
 nofun
def bt:D->D->Option D
 | .lst ds,.int i=>qH ds i
 | .tup ds,.int i=>qH ds i
 | .scr ds,.int i=>qH ds i
 |_,_=>Sr
theorem ug(r:Reps K F xs ds)(h:qH ds i=p5 d): ∃x,qH xs i=p5 x/\Rep K F x d:=by
 unfold qH at h⊢;rw[r.length];cases e:vW ds.length i with
 |none=>nofun
 |some j=>
  rw[e] at h;obtain⟨x,b,a⟩:=r.get (i:=j) h;exact⟨x,b,a⟩
theorem aN:rH K .s (RZ K) bt:=by
 intro H hid v u x y d Q j h i g q;unfold bt at h;split at h
 ·cases g.int;obtain⟨a,xs,rfl,c,b⟩:=i.lst;obtain⟨z,e,f⟩:=ug b h;exact .inl ⟨a,xs,_,z,rfl,rfl,c,e,q _ H (ab.refl _) f⟩
 ·cases g.int;obtain⟨a,xs,rfl,_,c,b⟩:=i.tup;obtain⟨z,e,f⟩:=ug b h;exact .inr (.inl ⟨a,xs,_,z,rfl,rfl,c,e,q _ H (ab.refl _) f⟩)
 ·cases g.int;obtain⟨a,xs,rfl,c,b⟩:=i.scr;obtain⟨z,e,f⟩:=ug b h;exact .inl ⟨a,xs,_,z,rfl,rfl,c,e,q _ H (ab.refl _) f⟩
 nofun
end
abbrev GE:=aB->Option (D×aB)
abbrev GA:=aB->Option (List D×aB)
def lr(hid:bC)(H a:Hp):Prop:= ∀b o,H b=p5 o->hid b=Pa->a b=p5 o
theorem lr.of(s:ab H H'):lr hid H H':=λb o q _=>s b o q
theorem lr.trans(a:lr hid H H1)(b:lr hid H1 H2):lr hid H H2:=λc o q h=>b c o (a c o q h) h
theorem lr.vw(a:lr hid H H'):ab (vw H hid) (vw H' hid):=Ag a
def kg(K:SA)(c:Ct)(hid:bC)(k:Kd)(ρ':aB)(σ:St)(H b:Hp)(v:V)(d:D):Prop:=lr hid H b/\match k with
 | .n=> ∃a xs ds,d=.lst ds/\v=.ref a/\H a=Sr/\b a=p5 (.lst xs)/\c.H₀ a=Sr/\hid a=Pa/\SR K c (bA hid a) ρ' σ b/\Reps K (vw b (bA hid a)) xs ds/\ ∀i:Nat,Ow ρ'[i]? ->σ[i]? ≠p5 (p5 (.ref a))
 |_=>SR K c hid ρ' σ b/\Rep K (vw b hid) v d
def Qg(K:SA)(c:Ct)(hid:bC)(k:Kd)(f:GE)(ρ:aB):TE:=λσ H Q=>SR K c hid ρ σ H/\ ∃d ρ',f ρ=p5 (d,ρ')/\ ∀v a,kg K c hid k ρ' σ H a v d->Q v a
def DE(X:Cx)(c:Ct)(k:Kd)(e:Expr)(f:GE):Prop:= ∀hid ρ,PE X e (Qg X.K c hid k f ρ)
def pu(f:FE):GE:=λρ=>(f ρ).map λd=>(d,ρ)
theorem Kj{ρ ρ':aB}(h:pu f ρ=p5 (d,ρ')):f ρ=p5 d/\ρ'=ρ:=by
 unfold pu at h;cases e:f ρ with
 |none=>nofun
 |some x=>grind
section
variable {K:SA}{c:Ct}{σ:St}{H:Hp}{i:Nat}
theorem cg {hid:bC}{a b:Addr}(h:hid b=S1):bA hid a b=true:=by unfold bA;rw[h];rfl
theorem cm {hid:bC}{a:Addr}:bA hid a a=true:=by simp[bA]
theorem SR.hide(h:SR K c hid ρ σ H)(e:ab H H')(n:H a=Sr)(A:H' a=p5 o)(w: ∀xs,o≠ .tup xs:=by intro _ e;cases e):SR K c (bA hid a) ρ σ H':=by
 have l:ab (vw H hid) (vw H' (bA hid a)):=λb o q=>by
  obtain⟨y,u⟩:=cW.mp q;refine cW.mpr ⟨?_,e _ _ u⟩;unfold bA;grind
 refine⟨λb k=>?_,λb xs k q=>by
  by_cases m:b=a
  ·nofun
  ·unfold bA at k
   exact(h.ext e).ht b xs (by simpa [m] using k) q,λb q=>cg (h.h0 b q),(h.ext e).kp,(h.ext e).t0,h.c0,h.m0,h.len,λi s q=>?_,h.ap⟩
 ·by_cases m:b=a
  ·nofun
  ·unfold bA at k;have:hid b=true:=by simpa [m] using k
   obtain⟨o',q⟩:=h.tr b this;exact⟨o',e _ _ q⟩
 ·have z:=h.sl i s q;cases s with
  |no=>trivial
  |v d=>obtain⟨x,g,f⟩:=z;exact⟨x,g,f.mono l⟩
  |own ds=>obtain⟨j,xs,g,f,p,t,r⟩:=z;exact⟨j,xs,g,e _ _ f,cg p,t,r.mono l⟩
  |arg ds=>obtain⟨j,xs,g,f,p,t,r⟩:=z;exact⟨j,xs,g,e _ _ f,cg p,t,r.mono l⟩
  |ob b=>obtain⟨j,g,f⟩:=z;exact⟨j,g,f.mono (λ_ x _=>e x) l λ_ _ _=>cg⟩
theorem SR.show (h:SR K c (bA hid a) ρ σ H)(A: ∀b,c.hid₀ b=S1->hid b=S1)(no: ∀i:Nat,Ow ρ[i]? ->σ[i]? ≠p5 (p5 (.ref a)))(C:H a=p5 o)(y: ∀p u,o≠ .nst p u:=by intro _ _ e;cases e):SR K c hid ρ σ H:=by
 have l:ab (vw H (bA hid a)) (vw H hid):=fy λb q=>cg q
 have m: ∀b,b≠a->bA hid a b=S1->hid b=true:=λb D k=>by grind[bA]
 refine⟨λb k=>h.tr b (cg k),λb xs k=>h.ht b xs (cg k),A,h.kp,h.t0,h.c0,h.m0,h.len,λi s q=>?_,h.ap⟩;have z:=h.sl i s q;cases s with
 |no=>trivial
 |v d=>obtain⟨x,f,j⟩:=z;exact⟨x,f,j.mono l⟩
 |own ds=>
  obtain⟨g,xs,f,j,n,t,r⟩:=z;have:g≠a:=λe=>by subst e;exact no i (by rw[q];trivial) f
  exact⟨g,xs,f,j,m g this n,t,r.mono l⟩
 |arg ds=>
  obtain⟨g,xs,f,j,n,t,r⟩:=z;have:g≠a:=λe=>by subst e;exact no i (by rw[q];trivial) f
  exact⟨g,xs,f,j,m g this n,t,r.mono l⟩
 |ob b=>
  obtain⟨g,f,j⟩:=z;exact⟨g,f,j.mono (λ_ _ _ _ q=>q) l λw x B=>m x (B.ne (λe=>by subst e;exact no i (by rw[q];exact w) f) C y)⟩
theorem SR.notOw(h:SR K c hid ρ σ H)(n:hid a=Pa)(i:Nat)(o:Ow ρ[i]?):σ[i]? ≠p5 (p5 (.ref a)):=λe=>by
 cases q:ρ[i]? with
 |none=>rw[q] at o;exact o
 |some s=>
  rw[q] at o;have z:=h.sl i s q;cases s with
  |no=>exact o
  |v d=>exact o
  |own ds=>obtain⟨j,xs,f,g,k,_⟩:=z;nofun
  |arg ds=>obtain⟨j,xs,f,g,k,_⟩:=z;nofun
  |ob b=>obtain⟨j,f,g⟩:=z;rw[e] at f;cases f;have:=g.hid o;nofun
theorem SR.post {k:Kd}(h:SR K c hid ρ σ H)(e:ab H H')(r:RK K k H H' hid v d)(m:k≠ .b):kg K c hid k ρ σ H H' v d:=by
 cases k with
 |b=>exact absurd rfl m
 |s=>exact⟨.of e,h.ext e,r⟩
 |n=>
  obtain⟨a,xs,ds,j,i,f,g,l⟩:=r;exact⟨.of e,a,xs,ds,j,i,f,g,h.fresh0 f,h.fresh f,h.hide e f g,l,h.notOw (h.fresh f)⟩
theorem kg.left(s:lr hid H H1)(p:kg K c hid k ρ' σ H1 H' v d):kg K c hid k ρ' σ H H' v d:=by
 cases k with
 |b=>exact⟨s.trans p.1,p.2⟩
 |s=>exact⟨s.trans p.1,p.2⟩
 |n=>
  obtain⟨g,a,xs,ds,i,h,j,l,q,f,m⟩:=p;refine⟨s.trans g,a,xs,ds,i,h,?_,l,q,f,m⟩;cases e:H a with
  |none=>rfl
  |some o=>rw[s a o e f] at j;omega
theorem kg.toS(g: ∀b,c.hid₀ b=S1->hid b=S1)(p:kg K c hid .n ρ' σ H H' v d):kg K c hid .s ρ' σ H H' v d:=by
 obtain⟨f,a,xs,ds,rfl,rfl,m,e,l,h,k,i,j⟩:=p;exact⟨f,k.show g j e,.lst (cW.mpr ⟨h,e⟩) (i.mono (fy λb q=>cg q))⟩
end
section
variable {X:Cx}{c:Ct}{a:Expr}{es:List Expr}{f g:GE}
theorem DP.ef {f:FE}(h:DP X c k e f)(m:k≠ .b:=by decide):DE X c k e (pu f):=λhid ρ=>PE.imp (h hid ρ) λσ H Q a=>by
 obtain⟨g,d,ρ',l,q⟩:=a;obtain⟨j,rfl⟩:=Kj l;exact⟨g,d,j,λv i s r=>q v i (g.post s r m)⟩
theorem DE.toS(h:DE X c .n e f):DE X c .s e f:=λhid ρ=>PE.imp (h hid ρ) λσ H Q ⟨a,d,ρ',b,q⟩=>⟨a,d,ρ',b,λv g p=>q v g (p.toS a.h0)⟩
def bE {α:Type}(f:GE)(g:D->aB->Option α):aB->Option α:=λρ=>(f ρ).bind λp=>g p.1 p.2
theorem u0 {α:Type}{g:D->aB->Option α}{ρ:aB}{z:α}(h:bE f g ρ=p5 z): ∃d ρ',f ρ=p5 (d,ρ')/\g d ρ'=p5 z:=by
 unfold bE at h;cases e:f ρ with
 |none=>nofun
 |some p=>rw[e] at h;exact⟨p.1,p.2,rfl,h⟩
def oM(F:D->D->Option D)(f g:GE):GE:=bE f λx=>bE g λy ρ=>(F x y).map λd=>(d,ρ)
theorem CA{ρ ρ':aB}(h:oM F f g ρ=p5 (d,ρ')): ∃x ρ1 y,f ρ=p5 (x,ρ1)/\g ρ1=p5 (y,ρ')/\F x y=p5 d:=by
 obtain⟨x,ρ1,c,a⟩:=u0 h;obtain⟨y,ρ2,i,b⟩:=u0 a;cases e:F x y with
 |none=>nofun
 |some z=>rw[e] at b;grind
theorem QC(G:rH X.K k r F)(I:k≠ .b){H:Hp}(h:Qg X.K c hid k (oM F f g) ρ σ H Q):N2 r (Qg X.K c hid .s f ρ) (λσ H Q=> ∃ρ1,Qg X.K c hid .s g ρ1 σ H Q) σ H Q:=by
 obtain⟨A,d,ρ',z,q⟩:=h;obtain⟨x,ρ1,y,m,t,C⟩:=CA z;refine⟨A,x,ρ1,m,λv L ⟨E,j,J⟩=>⟨ρ1,j,y,ρ',t,λu p ⟨e,i,D⟩=>?_⟩⟩;exact G p hid v u x y d Q (λa n=>i.fresh n) C (.inl (J.mono e.vw)) (.inl D) λw l o B=>q w l (kg.left (E.trans e) (i.post o B I))
theorem jM {α:Type}{t:α->TE}(h: ∀z,PE X e (t z)):PE X e (λσ H Q=> ∃z,t z σ H Q):=λa s σ H Q I ⟨z,q⟩=>h z a s σ H Q I q
theorem O8(i:kZ X (Vt op) r)(j:rH X.K k r F)(e:DE X c .s a f)(d:DE X c .s b g)(l:k≠ .b:=by decide):DE X c k (.BinOp a op b pos) (oM F f g):=λhid ρ=>
 PE.imp (D4 i (e hid ρ) (jM λρ1=>d hid ρ1)) λσ H Q h=>QC j l h
def Sc(K:SA)(c:Ct)(hid:bC)(f:GA)(ρ:aB):TA:=λσ H Q=>SR K c hid ρ σ H/\ ∃d ρ',f ρ=p5 (d,ρ')/\ ∀vs a,lr hid H a->SR K c hid ρ' σ a->Reps K (vw a hid) vs d->Q vs a
def DG(X:Cx)(c:Ct)(es:List Expr)(f:GA):Prop:= ∀hid ρ,PA X es (Sc X.K c hid f ρ)
def c8(f:FA):GA:=λρ=>(f ρ).map λd=>(d,ρ)
theorem ph {f:FA}{ρ ρ':aB}(h:c8 f ρ=p5 (d,ρ')):f ρ=p5 d/\ρ'=ρ:=by
 unfold c8 at h;cases e:f ρ with
 |none=>nofun
 |some x=>grind
theorem DA.gf {f:FA}(h:DA X c es f):DG X c es (c8 f):=λhid ρ=>PA.imp (h hid ρ) λσ H Q a=>by
 obtain⟨b,d,ρ',i,q⟩:=a;obtain⟨g,rfl⟩:=ph i;exact⟨b,d,g,λv e s r=>q v e (.of s) (b.ext s) r⟩
def ia(f:GE)(a:GA):GA:=bE f λd ρ=>(a ρ).map λp=>(d::p.1,p.2)
theorem OD {α:Type}{t:α->TA}(h: ∀z,PA X es (t z)):PA X es (λσ H Q=> ∃z,t z σ H Q):=λp a s σ H Q I ⟨z,q⟩=>h z p a s σ H Q I q
theorem A1(u:DE X c .s e f)(n:DG X c es fs)(i:SF (e::es) X.env=(Pa,eval e X.env)::SF es X.env:=by rfl):DG X c (e::es) (ia f fs):=λhid ρ=>
 PA.imp (bn (u hid ρ) (OD λρ1=>n hid ρ1) i) λσ H Q a=>by
  obtain⟨m,d,ρ',l,q⟩:=a;obtain⟨w,ρ1,j,b⟩:=u0 l;cases e2:fs ρ1 with
  |none=>nofun
  |some p=>
   rw[e2] at b;obtain⟨ds,ρ2⟩:=p;cases b;exact⟨m,w,ρ1,j,λv y ⟨t,h,x⟩=>⟨ρ1,h,ds,_,e2,λvs k g o r=>q _ k (t.trans g) o (.cons (x.mono g.vw) r)⟩⟩
end
def spP(K:SA)(k:Kd)(n:Nat)(P:List D->Option D):Sp:=λvs H Q _=> ∃hid ds,P5 hid H/\Reps K (vw H hid) vs ds/\ds.length=n/\ ∃d,P ds=p5 d/\ ∀v a,ab H a->RK K k H a hid v d->Q v a
def OA(K:SA)(k:Kd)(hid:bC)(H b:Hp)(v:V)(d:D)(c:List V)(a:List D):Prop:=match k with
 | .n=> ∃p ys es,d=.lst es/\v=.ref p/\H p=Sr/\b p=p5 (.lst ys)/\Reps K (vw b (bA hid p)) ys es/\Reps K (vw b (bA hid p)) c a
 |_=>Rep K (vw b hid) v d/\Reps K (vw b hid) c a
def spE(K:SA)(k:Kd)(n:Nat)(M:List D->List D->Option (D×List D)):Sp:=λvs H Q _=> ∃hid a xs bs us ds,vs=.ref a::us/\P5 hid H/\hid a=S1/\H a=p5 (.lst xs)/\Reps K (vw H hid) xs bs/\
 Reps K (vw H hid) us ds/\ds.length=n/\ ∃d e,M bs ds=p5 (d,e)/\ ∀v f c,(∀b o,H b=p5 o->b≠a->f b=p5 o)->f a=p5 (.lst c)->OA K k hid H f v d c e->Q v f
section
variable {X:Cx}{c:Ct}{a b:Expr}{n:Nat}
theorem Jk(F:j3 X.prog X.w X.K X.mg X.base vV j f fd ps (spP X.K k n P))(z:fq j X.A)(C:X.mg x=p5 (.ref f))(G:Yq X.K (.ref f)=S1)(r:ni X.K fd ps [])
 (E:DA X c (e::es) fs) (t:Gl X x:=by rfl) (h:(x==("__debug__":Str))=false:=by decide) (I:SF (e::es) X.env=(Pa,eval e X.env)::SF es X.env:=by rfl) (g:(Ul pos (SF es X.env)).any (·.1)=false:=by rfl):
 DP X c k (.Call (.Name x p) (e::es) [] pos) (au (λds=>if ds.length=n then P ds else Sr) fs):=λhid ρ=>
 PE.imp (AB F z t C G r .nil (LF (X:=X)) (E hid ρ) h I g) λσ H Q i=>by
  obtain⟨l,d,y,q⟩:=i;obtain⟨ds,s,u⟩:=qa y;have a:(if ds.length=n then P ds else Sr)=p5 d:=u;split at a
  ·refine⟨l,ds,s,λvs m b J=>?_⟩;show spP X.K k n P (vs++[]) m Q E0;rw[Uv];exact⟨hid,ds,(l.ext b).trk,J, ‹_›,d,a,λv o B D=>q v o (b.trans B) (RK.left b D)⟩
  nofun
def fu(i:Nat)(bs:List D)(ρ:aB):aB:=match ρ[i]? with
 |some (.own _)=>ρ.set i (.own bs)
 |some (.arg _)=>ρ.set i (.arg bs)
 |_=>ρ
def fW(i:Nat)(ρ:aB):Option (List D):=match ρ[i]? with
 |some (.own ds)=>p5 ds
 |some (.arg ds)=>p5 ds
 |_=>Sr
theorem gU(h:fW i ρ=p5 bs):ρ[i]? =p5 (.own bs)\/ρ[i]? =p5 (.arg bs):=by
 grind[fW]
theorem SR.held {K:SA}{hid:bC}{σ:St}(h:SR K c hid ρ σ H)(k:fW i ρ=p5 bs): ∃a xs,σ[i]? =p5 (p5 (.ref a))/\H a=p5 (.lst xs)/\hid a=S1/\Reps K (vw H hid) xs bs/\(c.mu a=S1\/c.H₀ a=Sr):=by
 rcases gU k with e|e
 ·obtain⟨a,xs,d,b,f,j,g⟩:=h.sl i _ e;exact⟨a,xs,d,b,f,g,.inr j⟩
 ·obtain⟨a,xs,d,b,f,j,g⟩:=h.sl i _ e;exact⟨a,xs,d,b,f,g,.inl j⟩
theorem js {i j:Nat}(h:j≠i):(fu i bs ρ)[j]? =ρ[j]? :=by
 unfold fu;split
 ·grind
 ·rw[SS (To h)]
 ·rfl
theorem Ho{ρ:aB}:(fu i bs ρ).length=ρ.length:=by
 unfold fu;split
 ·simp
 ·simp
 ·rfl
theorem uq {i j:Nat}(h:Ow (fu i bs ρ)[j]?):Ow ρ[j]? :=by
 by_cases e:j=i
 ·subst e;unfold fu at h;split at h
  ·rw[‹ρ[j]? =_›];trivial
  ·rw[‹ρ[j]? =_›];trivial
  omega
 ·rw[js e] at h;exact h
theorem SR.put {K:SA}{hid:bC}{ρ:aB}{σ:St}{H H':Hp}{i:Nat}{bs bs':List D}{a:Addr}{xs':List V}(h:SR K c hid ρ σ H)(hg:fW i ρ=p5 bs)(ha:σ[i]? =p5 (p5 (.ref a)))(kp: ∀b o,H b=p5 o->b≠a->H' b=p5 o)
 (hx:H' a=p5 (.lst xs')) (r:Reps K (vw H' hid) xs' bs'):SR K c hid (fu i bs' ρ) σ H':=by
 obtain⟨a1,xs,h1,h2,h3,h4,h5⟩:=h.held hg;rw[ha] at h1;cases h1;have sm:ab (vw H hid) (vw H' hid):=Ag λb o q hb=>kp b o q (λe=>by nofun)
 have tr': ∀b o,H b=p5 o-> ∃o',H' b=p5 o':=λb o q=>by
  grind[kp]
 refine⟨λb hb=>let⟨o,q⟩:=h.tr b hb;tr' b o q,λb xs hb q=>by
  by_cases e:b=a
  ·nofun
  ·obtain⟨o,w⟩:=h.tr b hb;have z:=kp b o w e
   rw[q] at z;cases z;exact h.ht b xs hb w,h.h0,λb o q m=>?_,λb o q=>let⟨o',q'⟩:=h.t0 b o q;tr' b o' q',h.c0,h.m0,by rw[Ho];exact h.len,λj s q=>?_,λj l z n o1 o2=>h.ap j l z n (uq o1) (uq o2)⟩
 ·refine kp b o (h.kp b o q m) λe=>?_
  nofun
 ·by_cases e:j=i
  ·subst e;rcases gU hg with w|w
   ·have lt:=(SK.mp w).1;unfold fu at q;rw[w] at q;dsimp only at q;rw[Ta lt] at q;cases q;obtain⟨a2,xs2,g1,g2,g3,g4,g5⟩:=h.sl j _ w;rw[ha] at g1;cases g1;exact⟨_,xs',ha,hx,g3,g4,r⟩
   ·have lt:=(SK.mp w).1;unfold fu at q;rw[w] at q;dsimp only at q;rw[Ta lt] at q;cases q;obtain⟨a2,xs2,g1,g2,g3,g4,g5⟩:=h.sl j _ w;rw[ha] at g1;cases g1;exact⟨_,xs',ha,hx,g3,g4,r⟩
  ·rw[js e] at q;have z:=h.sl j s q;cases s with
   |no=>trivial
   |v d=>obtain⟨x,h1,h2⟩:=z;exact⟨x,h1,h2.mono sm⟩
   |own ds=>
    obtain⟨a',xs,z1,z2,z3,z4,z5⟩:=z;have ne:a'≠a:=λe'=>by
     subst e';refine h.ap j i a' e (by rw[q];trivial) ?_ z1 ha;rcases gU hg with w|w<;>rw[w]<;>trivial
    exact⟨a',xs,z1,kp _ _ z2 ne,z3,z4,z5.mono sm⟩
   |arg ds=>
    obtain⟨a',xs,z1,z2,z3,z4,z5⟩:=z;have ne:a'≠a:=λe'=>by
     subst e';refine h.ap j i a' e (by rw[q];trivial) ?_ z1 ha;rcases gU hg with w|w<;>rw[w]<;>trivial
    exact⟨a',xs,z1,kp _ _ z2 ne,z3,z4,z5.mono sm⟩
   |ob b=>
    obtain⟨a',z1,z2⟩:=z;refine⟨a',z1,z2.mono (λow x hx o w=>kp _ _ w (hx.ne (λe'=>?_) h2)) sm λ_ _ _ w=>w⟩;subst e';refine h.ap j i a' e (by rw[q];exact ow) ?_ z1 ha;rcases gU hg with w|w<;>rw[w]<;>trivial
def aV(i n:Nat)(M:List D->List D->Option (D×List D))(b:GA):GE:=λρ=>match fW i ρ with
 |none=>Sr
 |some _=>match b ρ with
  |none=>Sr
  |some (ds,ρ1)=>match fW i ρ1 with
   |none=>Sr
   |some bs=>if ds.length=n then match M bs ds with
     |none=>Sr
     |some (d,a)=>p5 (d,fu i a ρ1) else Sr
theorem jI{ρ ρ':aB}{d:D}(h:aV i n M fs ρ=p5 (d,ρ')): ∃b ds ρ1 bs a,fW i ρ=p5 b/\fs ρ=p5 (ds,ρ1)/\fW i ρ1=p5 bs/\ds.length=n/\M bs ds=p5 (d,a)/\ρ'=fu i a ρ1:=by
 unfold aV at h;split at h
 ·nofun
 ·split at h
  ·nofun
  grind
theorem EY(i:Nat)(F:j3 X.prog X.w X.K X.mg X.base vV j f fd ps (spE X.K k n M))(hr:fq j X.A)(T:X.mg x=p5 (.ref f))(hk:Yq X.K (.ref f)=S1)(E:ni X.K fd ps [])
 (ha:DG X c es fs) (O:k≠ .b:=by decide) (hN:X.N[i]? =p5 y:=by rfl) (hv:lW X.env.scope y:=by first|exact TL rfl|exact Te (TL rfl)|exact Te (Te rfl)) (hd:(y==("__debug__":Str))=false:=by decide)
 (W:(y==("__classdict__":Str))=false:=by decide) (hs:SF (.Name y py::es) X.env=(Pa,eval (.Name y py) X.env)::SF es X.env:=by rfl) (hg:Gl X x:=by rfl) (J:(x==("__debug__":Str))=false:=by decide) (I:(Ul pos (SF es X.env)).any (·.1)=false:=by rfl):
 DE X c k (.Call (.Name x p) (.Name y py::es) [] pos) (aV i n M fs):=λhid ρ=>
 PE.imp (AB F hr hg T hk E .nil (LF (X:=X)) (bn (pv i hN hv hd W) (ha hid ρ) hs) J hs I) λσ H Q Y=>by
  obtain⟨Z,d,ρ',L,q⟩:=Y;obtain⟨bs0,ds,ρ1,bs,r,e0,e1,G,e3,e4,rfl⟩:=jI L;obtain⟨a,xs0,D,_,a3,_,_⟩:=Z.held e0;refine⟨.ref a,D,Z,ds,ρ1,e1,λus B V h r1=>?_⟩;obtain⟨a',xs,b1,b2,b3,b4,b5⟩:=h.held G;rw[D] at b1;cases b1;show spE X.K k n M ((.ref a::us)++[]) B Q E0;rw[Uv];refine⟨hid,a,xs,bs,us,ds,rfl,h.trk,b3,b2,b4,r1,e3,d,r,e4,λv C xs' kp hx l=>q v C ?_⟩;have u:lr hid B C:=λb o q E=>kp b o q λe=>by nofun
  cases k with
  |b=>exact absurd rfl O
  |s=>exact⟨V.trans u,h.put G D kp hx l.2,l.1⟩
  |n=>
   obtain⟨g,ys,S,rfl,rfl,t,h2,h3,h4⟩:=l;have P:hid g=false:=h.fresh t;have na:a≠g:=λe=>by nofun
   have sB:SR X.K c (bA hid g) ρ1 σ (aW B g (.lst ys)):=h.hide (aJ t _) t aA;have R: ∀b o,(aW B g (.lst ys)) b=p5 o->b≠a->C b=p5 o:=λb o z E=>by
    grind[aA,az]
   have sC:SR X.K c (bA hid g) (fu i r ρ1) σ C:=sB.put G D R hx h4;have hn:H g=none:=by
    cases e:H g with
    |none=>rfl
    |some o=>rw[V g o e P] at t;omega
   refine⟨V.trans u,g,ys,S,rfl,rfl,hn,h2,h.fresh0 t,P,sC,h3,λm T U=>?_⟩;have:=h.notOw P m (uq T);exact this U
end
inductive Out where
 |nx (ρ:aB)|rt (d:D) (ρ:aB)|bk (ρ:aB)|ct (ρ:aB)|no
abbrev FS:=aB->Out
def Q8(c:Ct)(k:Kd)(v:V):bC:=match k,v with
 | .n,.ref a=>bA c.hid₀ a
 |_,_=>c.hid₀
structure Ret(K:SA)(c:Ct)(k:Kd)(ρ':aB)(H':Hp)(v:V)(d:D):Prop where
 kp: ∀b o,c.H₀ b=p5 o->c.mu b=Pa->H' b=p5 o
 val:match k with
  | .n=> ∃a xs ds,d=.lst ds/\v=.ref a/\c.H₀ a=Sr/\H' a=p5 (.lst xs)/\Reps K (vw H' (bA c.hid₀ a)) xs ds
  |_=>Rep K (vw H' c.hid₀) v d
 arg: ∀(i:Nat) (bs:List D),ρ'[i]? =p5 (Sl.arg bs)-> ∃a xs,c.mu a=S1/\H' a=p5 (.lst xs)/\Reps K (vw H' (Q8 c k v)) xs bs
def ey(K:SA)(c:Ct)(k:Kd)(D:ua)(W:Hp):Out->Prop
 | .nx ρ'=> ∀b e a,SR K c a ρ' b e->ab W (vw e a)->D.nx b e
 | .rt d ρ'=> ∀v e,Ret K c k ρ' e v d->D.rt v e
 | .bk ρ'=> ∀b e a,SR K c a ρ' b e->ab W (vw e a)->D.bk b e
 | .ct ρ'=> ∀b e a,SR K c a ρ' b e->ab W (vw e a)->D.ct b e
 | .no=>False
theorem ey.mono {K:SA}{D:ua}(h:ey K c k D W o)(s:ab W W'):ey K c k D W' o:=by
 cases o with
 |nx ρ=>exact λb e a z w=>h b e a z (s.trans w)
 |rt d ρ=>exact h
 |bk ρ=>exact λb e a z w=>h b e a z (s.trans w)
 |ct ρ=>exact λb e a z w=>h b e a z (s.trans w)
 |no=>exact h
def RO(K:SA)(c:Ct)(k:Kd)(t:FS)(ρ:aB):TS:=λD σ H=> ∃hid,SR K c hid ρ σ H/\ey K c k D (vw H hid) (t ρ)
def DS(X:Cx)(c:Ct)(k:Kd)(st:Stmt)(t:FS):Prop:= ∀ρ,PS X st (RO X.K c k t ρ)
def z7(X:Cx)(c:Ct)(k:Kd)(st:List Stmt)(t:FS):Prop:= ∀ρ,PSs X st (RO X.K c k t ρ)
section
variable {X:Cx}{c:Ct}{st:Stmt}{t u:FS}
theorem EH {α:Type}{t:α->TS}(h: ∀z,PSs X sts (t z)):PSs X sts (λD σ H=> ∃z,t z D σ H):=λa s σ H D I ⟨z,q⟩=>h z a s σ H D I q
theorem Qa {α:Type}{t:α->TT}(h: ∀z,PT X e (t z)):PT X e (λD σ H=> ∃z,t z D σ H):=λa s σ H D I ⟨z,q⟩=>h z a s σ H D I q
def el:FS:=λρ=>.nx ρ
def aF(t u:FS):FS:=λρ=>match t ρ with
 | .nx ρ'=>u ρ'
 | .rt d ρ'=>.rt d ρ'
 | .bk ρ'=>.bk ρ'
 | .ct ρ'=>.ct ρ'
 | .no=>.no
theorem cI:z7 X c k [] el:=λρ=>PSs.imp IL λD σ H ⟨hid,a,q⟩=>q σ H hid a (ab.refl _)
theorem am(h:DS X c k st t):z7 X c k [st] t:=λρ=>IK (h ρ)
theorem ai(h:DS X c k st t)(g:z7 X c k rest u):z7 X c k (st::rest) (aF t u):=λρ=>
 PSs.imp (Eh (h ρ) (EH λρ1=>g ρ1)) λD σ H f=>by
  obtain⟨hid,j,q⟩:=f;refine⟨hid,j,?_⟩;unfold aF at q;cases e:t ρ with
  |nx ρ1=>rw[e] at q;exact λl m a b i=>⟨ρ1,a,b,ey.mono q i⟩
  |rt d ρ1=>rw[e] at q;exact q
  |bk ρ1=>rw[e] at q;exact q
  |ct ρ1=>rw[e] at q;exact q
  |no=>rw[e] at q;exact q
def gm(p:FT)(t u:FS):FS:=λρ=>match p ρ with
 |some true=>t ρ
 |some false=>u ρ
 |none=>.no
theorem eW {p:FT}{a b:List Stmt}(hp:DT X c e p)(ha:z7 X c k a t)(hb:z7 X c k b u):DS X c k (.If e a b pos) (gm p t u):=λρ=>
 PS.imp (PY (Qa λhid=>hp hid ρ) (ha ρ) (hb ρ)) λD σ H hq_=>by
  obtain⟨hid,sr,q⟩:=hq_;cases e1:p ρ with
  |none=>unfold gm at q;rw[e1] at q;exact q.elim
  |some x=>
   refine⟨hid,sr,x,e1,λH1 s1=>?_⟩;unfold gm at q;rw[e1] at q;cases x with
   |true=>exact Kg ⟨hid,sr.ext s1,ey.mono q (aC s1)⟩
   |false=>exact Jf ⟨hid,sr.ext s1,ey.mono q (aC s1)⟩
def bX(f:FE):FS:=λρ=>match f ρ with
 |some d=>.rt d ρ
 |none=>.no
theorem LA {K:SA}{H g:Hp}(z:k≠ .b)(p:kg K c hid k ρ' σ H g v d)(C: ∀b,c.hid₀ b=S1->hid b=S1):Ret K c k ρ' g v d:=by
 cases k with
 |b=>exact absurd rfl z
 |s=>
  obtain⟨_,f,r⟩:=p;refine⟨f.kp,r.mono (fy f.h0),λi bs e=>?_⟩;obtain⟨a,xs,A,l,x,h,m⟩:=f.sl i _ e;refine⟨a,xs,h,l,?_⟩;show Reps K (vw g c.hid₀) xs bs;exact m.mono (fy f.h0)
 |n=>
  obtain⟨_,a,xs,ds,rfl,rfl,_,w,t,B,f,y,D⟩:=p;have o:ab (vw g (bA hid a)) (vw g (bA c.hid₀ a)):=fy λb q=>by
   unfold bA at q⊢;grind
  refine⟨f.kp,⟨a,xs,ds,rfl,rfl,t,w,y.mono o⟩,λi bs e=>?_⟩;obtain⟨u,j,A,l,x,h,m⟩:=f.sl i _ e;exact⟨u,j,h,l,m.mono o⟩
theorem aQ(i:DP X c k e f)(g:k≠ .b:=by decide):DS X c k (.Return (p5 e) pos) (bX f):=λρ=>PS.imp (Fj (jM λhid=>i hid ρ)) λD σ H d=>by
 obtain⟨hid,a,q⟩:=d;unfold bX at q;cases e1:f ρ with
 |none=>rw[e1] at q;exact q.elim
 |some z=>rw[e1] at q;exact⟨hid,a,_,e1,λv h s r=>q v h (LA g (a.post s r g) a.h0)⟩
def yX:Option Sl->Option (List D)
 |some (.own ds)=>p5 ds
 |_=>Sr
def C8(i:Nat):FS:=λρ=>match yX ρ[i]? with
 |some ds=>.rt (.lst ds) ρ
 |none=>.no
theorem rL(h:yX o=p5 ds):o=p5 (.own ds):=by
 unfold yX at h;grind
theorem lK(i:Nat)(t:X.N[i]? =p5 x:=by rfl)(hv:lW X.env.scope x:=by first|exact TL rfl|exact Te (TL rfl)|exact Te (Te rfl))(r:(x==("__debug__":Str))=false:=by decide)
 (g:(x==("__classdict__":Str))=false:=by decide):DS X c .n (.Return (p5 (.Name x pos')) pos) (C8 i):=λρ=>PS.imp (Fj (pv i t hv r g)) λD σ H h=>by
 obtain⟨hid,d,q⟩:=h;unfold C8 at q;cases e0:yX ρ[i]? with
 |none=>rw[e0] at q;exact q.elim
 |some ds=>
  rw[e0] at q;have e:=rL e0;obtain⟨a,xs,v,y,B,m,s⟩:=d.sl i _ e;have k:ab (vw H hid) (vw H (bA c.hid₀ a)):=fy λb w=>by
   unfold bA at w;cases e:c.hid₀ b with
   |true=>exact d.h0 b e
   |false=>
    nofun
  refine⟨_,v,q _ H ⟨d.kp,⟨a,xs,ds,rfl,rfl,m,y,s.mono k⟩,λj bs u=>?_⟩⟩;obtain⟨l,f,C,p,A,o,z⟩:=d.sl j _ u;exact⟨l,f,o,p,z.mono k⟩
end
section
variable {K:SA}{c:Ct}{ρ:aB}{σ:St}
theorem SR.setV(h:SR K c hid ρ σ H)(r:Rep K (vw H hid) v d)(i:Nat):SR K c hid (ρ.set i (.v d)) (σ.set i (p5 v)) H:=by
 refine⟨h.tr,h.ht,h.h0,h.kp,h.t0,h.c0,h.m0,by simp[h.len],λj s q=>?_,λj l z n k p y t=>?_⟩
 ·by_cases e:j=i
  ·subst e;have lt:j<ρ.length:=by
    have:=(SK.mp q).1;nofun
   rw[Ta lt] at q;cases q;exact⟨v,Ta (by rw[h.len];exact lt),r⟩
  ·rw[SS (To e)] at q;have w:=h.sl j s q;have es:(σ.set i (p5 v))[j]? =σ[j]? :=SS (To e);cases s with
   |no=>trivial
   |v d=>obtain⟨x,g,f⟩:=w;exact⟨x,es.trans g,f⟩
   |own ds=>obtain⟨a,xs,g,f⟩:=w;exact⟨a,xs,es.trans g,f⟩
   |arg ds=>obtain⟨a,xs,g,f⟩:=w;exact⟨a,xs,es.trans g,f⟩
   |ob b=>obtain⟨a,g,f⟩:=w;exact⟨a,es.trans g,f⟩
 ·have u: ∀m,Ow (ρ.set i (.v d))[m]? ->m≠i:=λm o e=>by
   subst e
   by_cases lt:m<ρ.length
   ·rw[Ta lt] at o;exact o
   ·rw[Wp (by nofun)] at o;exact o
  have A:=u j k;have B:=u l p;rw[SS (To A)] at k y;rw[SS (To B)] at p t;exact h.ap j l z n k p y t
theorem SR.setO(h:SR K c hid ρ σ H)(y:H a=p5 (.lst xs))(A:hid a=S1)(B:c.H₀ a=Sr)(r:Reps K (vw H hid) xs ds)(no: ∀i:Nat,Ow ρ[i]? ->σ[i]? ≠p5 (p5 (.ref a)))(i:Nat):
 SR K c hid (ρ.set i (.own ds)) (σ.set i (p5 (.ref a))) H:=by
 refine⟨h.tr,h.ht,h.h0,h.kp,h.t0,h.c0,h.m0,by simp[h.len],λj s q=>?_,λj l z n p k u m=>?_⟩
 ·by_cases e:j=i
  ·subst e;have lt:j<ρ.length:=by
    have:=(SK.mp q).1;nofun
   rw[Ta lt] at q;cases q;exact⟨a,xs,Ta (by rw[h.len];exact lt),y,A,B,r⟩
  ·rw[SS (To e)] at q;have w:=h.sl j s q;have es:(σ.set i (p5 (V.ref a)))[j]? =σ[j]? :=SS (To e);cases s with
   |no=>trivial
   |v d=>obtain⟨x,g,f⟩:=w;exact⟨x,es.trans g,f⟩
   |own ds=>obtain⟨a,xs,g,f⟩:=w;exact⟨a,xs,es.trans g,f⟩
   |arg ds=>obtain⟨a,xs,g,f⟩:=w;exact⟨a,xs,es.trans g,f⟩
   |ob b=>obtain⟨a,g,f⟩:=w;exact⟨a,es.trans g,f⟩
 ·by_cases t:j=i
  ·subst t;have o:l≠j:=λe=>n e.symm
   rw[SS (To o)] at k m
   by_cases lt:j<σ.length
   ·nofun
   nofun
  ·rw[SS (To t)] at p u
   by_cases o:l=i
   ·grind
   ·rw[SS (To o)] at k m;exact h.ap j l z n p k u m
end
section
variable {X:Cx}{c:Ct}{st:Stmt}{pos:Pos}{x:Str}{i:Nat}
def fM(i:Nat)(f:GE):FS:=λρ=>match f ρ with
 |some (d,ρ')=>.nx (ρ'.set i (.v d))
 |none=>.no
def br(i:Nat)(f:FE):FS:=λρ=>match f ρ with
 |some d=>.nx (ρ.set i (.v d))
 |none=>.no
def Ru:D->Option (List D)
 | .lst ds=>p5 ds
 |_=>Sr
def yn(i:Nat)(f:GE):FS:=λρ=>match f ρ with
 |some (d,ρ')=>(match Ru d with
  |some ds=>.nx (ρ'.set i (.own ds))
  |none=>.no)
 |none=>.no
def dh(i:Nat)(f:FE):FS:=λρ=>match f ρ with
 |some d=>(match Ru d with
  |some ds=>.nx (ρ.set i (.own ds))
  |none=>.no)
 |none=>.no
theorem gg(i:Nat)(h:X.N.Nodup)(o:DE X c .s e f)(j:X.N[i]? =p5 x:=by rfl)(b:CO X.env.scope x:=by first|exact TL rfl|exact Te rfl)(g:Uw e (some (.Name x pos')) pos.line X.env=pure false:=by rfl)
 (l:X.fn x=S1\/X.env.scope.names.lookup x=p5 .local:=by first|exact .inl rfl|exact .inr rfl|assumption):DS X c k (.Assign [.Name x pos'] e pos) (fM i f):=λρ=>PS.imp (j0 h j b (jM λhid=>o hid ρ) g l) λD σ H a=>by
 obtain⟨hid,n,q⟩:=a;unfold fM at q;cases e1:f ρ with
 |none=>rw[e1] at q;exact q.elim
 |some z=>
  rw[e1] at q;exact⟨hid,n,z.1,z.2,e1,λv d ⟨m,s',r⟩=>q _ d hid (s'.setV r i) m.vw⟩
theorem aK(i:Nat)(j:X.N.Nodup)(n:DP X c .s e f)(l:X.N[i]? =p5 x:=by rfl)(d:CO X.env.scope x:=by first|exact TL rfl|exact Te rfl)(h:Uw e (some (.Name x pos')) pos.line X.env=pure false:=by rfl)
 (m:X.fn x=S1\/X.env.scope.names.lookup x=p5 .local:=by first|exact .inl rfl|exact .inr rfl|assumption):DS X c k (.Assign [.Name x pos'] e pos) (br i f):=λρ=>PS.imp (j0 j l d (jM λhid=>n hid ρ) h m) λD σ H a=>by
 obtain⟨hid,b,q⟩:=a;unfold br at q;cases e1:f ρ with
 |none=>rw[e1] at q;exact q.elim
 |some z=>
  rw[e1] at q;exact⟨hid,b,z,e1,λv g s' r=>q _ g hid ((b.ext s').setV r i) (aC s')⟩
theorem JD {K:SA}{ρ':aB}{σ:St}{D:ua}(p:kg K c hid .n ρ' σ H H' v d)(q:ey K c k D (vw H hid) (match Ru d with
 |some ds=>.nx (ρ'.set i (.own ds))
 |none=>.no)):D.nx (σ.set i (p5 v)) H':=by
 obtain⟨j,a,xs,ds,rfl,rfl,s,f,e,t,r,g,m⟩:=p;refine q _ H' (bA hid a) (r.setO f cm e g m i) λb o w=>?_
 obtain⟨l,h⟩:=cW.mp w;refine cW.mpr ⟨?_,j b o h l⟩;unfold bA;grind
theorem JN(i:Nat)(g:X.N.Nodup)(m:DE X c .n e f)(h:X.N[i]? =p5 x:=by rfl)(b:CO X.env.scope x:=by first|exact TL rfl|exact Te rfl)(d:Uw e (some (.Name x pos')) pos.line X.env=pure false:=by rfl)
 (j:X.fn x=S1\/X.env.scope.names.lookup x=p5 .local:=by first|exact .inl rfl|exact .inr rfl|assumption):DS X c k (.Assign [.Name x pos'] e pos) (yn i f):=λρ=>PS.imp (j0 g h b (jM λhid=>m hid ρ) d j) λD σ H a=>by
 obtain⟨hid,l,q⟩:=a;unfold yn at q;cases e1:f ρ with
 |none=>rw[e1] at q;exact q.elim
 |some z=>
  rw[e1] at q;exact⟨hid,l,z.1,z.2,e1,λv o p=>JD p q⟩
theorem cX(i:Nat)(h:X.N.Nodup)(m:DP X c .n e f)(j:X.N[i]? =p5 x:=by rfl)(d:CO X.env.scope x:=by first|exact TL rfl|exact Te rfl)(g:Uw e (some (.Name x pos')) pos.line X.env=pure false:=by rfl)
 (l:X.fn x=S1\/X.env.scope.names.lookup x=p5 .local:=by first|exact .inl rfl|exact .inr rfl|assumption):DS X c k (.Assign [.Name x pos'] e pos) (dh i f):=λρ=>PS.imp (j0 h j d (jM λhid=>m hid ρ) g l) λD σ H a=>by
 obtain⟨hid,b,q⟩:=a;unfold dh at q;cases e1:f ρ with
 |none=>rw[e1] at q;exact q.elim
 |some z=>
  rw[e1] at q;exact⟨hid,b,z,e1,λv o s r=>JD (b.post s r ()) q⟩
def DJ(i:Nat)(ρ:aB):aB:=match yX ρ[i]? with
 |some ds=>ρ.set i (.v (.lst ds))
 |none=>ρ
theorem SR.freeze {K:SA}(h:SR K c hid ρ σ H)(i:Nat): ∃g,SR K c g (DJ i ρ) σ H/\ab (vw H hid) (vw H g):=by
 unfold DJ;cases e0:yX ρ[i]? with
 |none=>exact⟨hid,h,ab.refl _⟩
 |some ds=>
  have e:=rL e0;obtain⟨a,xs,A,I,T,R,O⟩:=h.sl i _ e;have t:ab (vw H hid) (vw H (eA hid a)):=fy λb w=>by unfold eA at w;rw[TR] at w;exact w.1
  have y: ∀b,b≠a->hid b=S1->eA hid a b=true:=λb n w=>by unfold eA;nofun
  have S:c.hid₀ a=false:=by
   cases q:c.hid₀ a with
   |false=>rfl
   |true=>obtain⟨o,w⟩:=h.c0 a q;nofun
  refine⟨eA hid a,⟨λb w=>h.tr b (by unfold eA at w;rw[TR] at w;exact w.1),λb xs w=>h.ht b xs (by unfold eA at w;rw[TR] at w;exact w.1),λb w=>y b (λe=>by nofun) (h.h0 b w),h.kp,h.t0,h.c0,h.m0,by simp[h.len],λj s q=>?_,λj l z n B E Q M=>?_⟩,t⟩
  ·by_cases u:j=i
   ·subst u;rw[Ta (SK.mp e).1] at q;cases q;exact⟨_,A,.lst (cW.mpr ⟨by simp[eA],I⟩) (O.mono t)⟩
   ·rw[SS (To u)] at q;have w:=h.sl j s q;cases s with
    |no=>trivial
    |v d=>obtain⟨x,f,k⟩:=w;exact⟨x,f,k.mono t⟩
    |own ds=>
     obtain⟨p,xs,f,k,C,F,D⟩:=w;exact⟨p,xs,f,k,y p (λr=>by subst r;exact h.ap j i _ u (by rw[q];trivial) (by rw[e];trivial) f A) C,F,D.mono t⟩
    |arg ds=>
     obtain⟨p,xs,f,k,C,F,D⟩:=w;exact⟨p,xs,f,k,y p (λr=>by subst r;exact h.ap j i _ u (by rw[q];trivial) (by rw[e];trivial) f A) C,F,D.mono t⟩
    |ob b=>
     obtain⟨p,f,k⟩:=w;exact⟨p,f,k.mono (λ_ _ _ _ q=>q) t λJ x P=>y x (P.ne (λr=>by subst r;exact h.ap j i _ u (by rw[q];exact J) (by rw[e];trivial) f A) I)⟩
  ·have G: ∀m,Ow (ρ.set i (.v (.lst ds)))[m]? ->m≠i:=λm o r=>by
    subst r
    by_cases lt:m<ρ.length
    ·rw[Ta lt] at o;exact o
    nofun
   have L:=G j B;have N:=G l E;rw[SS (To L)] at B;rw[SS (To N)] at E;exact h.ap j l z n B E Q M
theorem F6(i:Nat)(h:DS X c k st t):DS X c k st (λρ=>t (DJ i ρ)):=λρ=>PS.imp (h (DJ i ρ)) λD σ H d=>by
 obtain⟨hid,e,q⟩:=d;obtain⟨a,b,f⟩:=e.freeze i;exact⟨a,b,ey.mono q f⟩
def cz(f:GE):FS:=λρ=>match f ρ with
 |some (_,ρ')=>.nx ρ'
 |none=>.no
theorem eL(i:DE X c .s e f)(h:Uw e Sr pos.line X.env=pure false:=by rfl):DS X c k (.Expr e pos) (cz f):=λρ=>PS.imp (Bp (jM λhid=>i hid ρ) h) λD σ H a=>by
 obtain⟨hid,d,q⟩:=a;unfold cz at q;cases e1:f ρ with
 |none=>rw[e1] at q;exact q.elim
 |some z=>
  rw[e1] at q;exact⟨hid,d,z.1,z.2,e1,λv g ⟨b,s',_⟩=>q _ g hid s' b.vw⟩
def Mw(K:SA)(r:V->List V->Hp->VK->Prop)(n:Nat)(M:List D->List D->Option (D×List D)):Prop:= ∀(H:Hp) (hid:bC) (a:Addr) (xs us:List V) (bs ds c:List D) (d:D) (Q:VK),H a=p5 (.lst xs)->hid a=S1->Reps K (vw H hid) xs bs->Reps K (vw H hid) us ds->
 ds.length=n->M bs ds=p5 (d,c)->(∀w b,Reps K (vw H hid) b c->Rep K (vw H hid) w d->Q w (aW H a (.lst b)))->r (.ref a) us H Q
theorem Lr {K:SA}(E:Mw K r n M){bs ds f:List D}(A:lr hid H H1)(h:SR K c hid ρ1 σ H1)(m:fW i ρ1=p5 bs)
 (p:σ[i]? =p5 (p5 (.ref a))) (G:Reps K (vw H1 hid) us ds) (u:ds.length=n) (x:M bs ds=p5 (d,f)) (q: ∀v j,kg K c hid .s (fu i f ρ1) σ H j v d->Q v j):r (.ref a) us H1 Q:=by
 obtain⟨I,xs,l,t,g,F,J⟩:=h.held m;rw[p] at l;cases l;refine E H1 hid a xs us bs ds f d Q t g F G u x λw y B C=>q w _ ⟨A.trans λb o z k=>?_,?_,?_⟩
 ·rw[az (λe=>by nofun)];exact z
 ·exact h.put m p (λb o z k=>by rw[az k];exact z) aA (by rw[bV g];exact B)
 ·rw[bV g];omega
variable {apos:Pos}{id:String}
theorem g6(i:Nat)(E:Mw X.K r n M)(P:Lh X id r)(j:Slot "list" name id)(l:jcU (.builtin id)=pure (.type "method_descriptor"))(D:DG X c (e::es) fs)
 (A:X.N[i]? =p5 y:=by rfl) (hv:lW X.env.scope y:=by first|exact TL rfl|exact Te (TL rfl)|exact Te (Te rfl)) (z:(y==("__debug__":Str))=false:=by decide) (m:(y==("__classdict__":Str))=false:=by decide)
 (f:UG (.Name y py) name X.env (eval (.Name y py) X.env)=eval (.Name y py) X.env:=by rfl)
 (h:((Ul pos (SF (e::es) X.env)).all (λx=> !x.1)&&(XO pos (V7 [] X.env)).all (λx=>x.1.isSome)
   &&Oo ((e::es).length+([]:List VI).length+(if([]:List VI).isEmpty then 0 else 1)<30))=true:=by rfl)
 (g:(apos.endLine==pos.line)=true:=by rfl) (G:SF (e::es) X.env=(Pa,eval e X.env)::SF es X.env:=by rfl) (b:(Ul pos (SF es X.env)).any (·.1)=false:=by rfl):
 DE X c .s (.Call (.Attribute (.Name y py) name apos) (e::es) [] pos) (aV i n M fs):=λhid ρ=>
 PE.imp (xJ VZ j l P (pv i A hv z m) (D hid ρ) f h g G b) λσ H Q o=>by
  obtain⟨t,d,ρ',k,q⟩:=o;obtain⟨J,ds,ρ1,bs,C,I,v,w,O,B,rfl⟩:=jI k;obtain⟨a,xs0,p,L,T,_,_⟩:=t.held I;exact⟨.ref a,p,.inl ⟨rfl,_,SqL.of L⟩,t,ds,ρ1,v,λus S R F u=>Lr E R F w p u O B q⟩
theorem GT(i:Nat)(x:Mw X.K r 0 M)(D:Lh X id r)(f:Slot "list" name id)(h:jcU (.builtin id)=pure (.type "method_descriptor"))
 (u:X.N[i]? =p5 y:=by rfl) (hv:lW X.env.scope y:=by first|exact TL rfl|exact Te (TL rfl)|exact Te (Te rfl)) (t:(y==("__debug__":Str))=false:=by decide) (j:(y==("__classdict__":Str))=false:=by decide)
 (b:UG (.Name y py) name X.env (eval (.Name y py) X.env)=eval (.Name y py) X.env:=by rfl) (e:(apos.endLine==pos.line)=true:=by rfl):
 DE X c .s (.Call (.Attribute (.Name y py) name apos) [] [] pos) (aV i 0 M (c8 aj)):=λhid ρ=>
 PE.imp (Fq VZ f h D (pv i u hv t j) b e) λσ H Q k=>by
  obtain⟨m,d,ρ',g,q⟩:=k;obtain⟨A,ds,ρ1,bs,w,z,n,o,C,v,rfl⟩:=jI g;obtain⟨p,rfl⟩:=ph n;cases p;obtain⟨a,xs0,l,B,E,_,_⟩:=m.held z;exact⟨.ref a,l,.inl ⟨rfl,_,SqL.of B⟩,Lr x (.of (ab.refl _)) m o l .nil C v q⟩
end
section
variable {K:SA}
def mj:List D->List D->Option (D×List D):=λbs ds=>match ds with
 | [d]=>if bs.length<SU then p5 (.non,bs++[d]) else Sr
 |_=>Sr
theorem gP:Mw K Bl 1 mj:=by
 intro H hid a xs us bs ds f d Q e h c g i b q;unfold mj at b;split at b
 ·split at b
  ·cases b;cases g with
   |cons r t=>
    cases t;exact⟨a,xs,_,rfl,rfl,e,by rw[c.length];omega,q _ _ (c.append (.cons r .nil)) .non⟩
  nofun
 nofun
def rg:List D->List D->Option (D×List D):=λbs ds=>match ds with
 | [.int i]=>match (if bs.length<=SU then vW bs.length i else Sr) with
   |some j=>(bs[j]?).map λd=>(d,bs.eraseIdx j)
   |none=>Sr
 |_=>Sr
theorem NF:Mw K GG 1 rg:=by
 intro H hid a xs us bs ds l d Q f p c o v b q;unfold rg at b;split at b
 ·split at b
  ·rename_i i _ j e
   cases e1:bs[j]? with
   |none=>nofun
   |some z=>
    rw[e1] at b;cases b;cases o with
    |cons r t=>
     cases t;cases r;obtain⟨x,g,k⟩:=c.get e1;split at e
     ·obtain⟨m,w,s,u⟩:=uC e;have h:=c.length;have n:=jO;refine⟨a,xs,i,j,x,rfl,rfl,f,⋯,⋯,by rw[h];exact m,g,q _ _ (c.eraseIdx j) k⟩
     nofun
  nofun
 nofun
end
abbrev FG:=D->aB->Option aB
abbrev vS:=List D->aB->Option aB
def OwK(ρ ρ':aB)(σ a:St):Prop:= ∀i:Nat,Ow ρ'[i]? ->Ow ρ[i]? /\a[i]? =σ[i]?
theorem OwK.trans {ρ ρ1 ρ2:aB}(a:OwK ρ ρ1 σ σ1)(b:OwK ρ1 ρ2 σ1 σ2):OwK ρ ρ2 σ σ2:=λi o=>⟨(a i (b i o).1).1,(b i o).2.trans (a i (b i o).1).2⟩
def Qy {ι:Type}(IR:Hp->V->ι->Prop)(K:SA)(c:Ct)(hid:bC)(g:ι->aB->Option aB)(ρ:aB)(d:ι):TG:=λv σ H Q=>SR K c hid ρ σ H/\IR (vw H hid) v d/\ ∃ρ',g d ρ=p5 ρ'/\ ∀a,SR K c hid ρ' a H->OwK ρ ρ' σ a->Q a H
def Qs {ι:Type}(IR:Hp->V->ι->Prop)(X:Cx)(c:Ct)(a:Expr)(g:ι->aB->Option aB):Prop:= ∀hid ρ d,PG X a (Qy IR X.K c hid g ρ d)
abbrev vR(X:Cx)(c:Ct)(a:Expr)(g:FG):Prop:=Qs (Rep X.K) X c a g
def Q4(K:SA)(c:Ct)(hid:bC)(g:vS)(ρ:aB)(d:List D):G1:=λv σ H Q=>SR K c hid ρ σ H/\Reps K (vw H hid) v d/\ ∃ρ',g d ρ=p5 ρ'/\ ∀a,SR K c hid ρ' a H->OwK ρ ρ' σ a->Q a H
def Qj(X:Cx)(c:Ct)(a:List Expr)(g:vS):Prop:= ∀hid ρ d,PGs X a (Q4 X.K c hid g ρ d)
theorem PG.imp {X:Cx}(h:PG X e t)(i: ∀v σ H Q,t' v σ H Q->t v σ H Q):PG X e t':=λa s σ H v u Q I r q=>h a s σ H v u Q I r (i v σ H Q q)
theorem PGs.imp {X:Cx}(h:PGs X e t)(i: ∀v σ H Q,t' v σ H Q->t v σ H Q):PGs X e t':=λa s σ H v u Q I r q=>h a s σ H v u Q I r (i v σ H Q q)
theorem Hm {X:Cx}{e:Expr}{α:Type}{t:α->TG}(h: ∀z,PG X e (t z)):PG X e (λv σ H Q=> ∃z,t z v σ H Q):=λa s σ H v u Q I r ⟨z,q⟩=>h z a s σ H v u Q I r q
theorem A6 {X:Cx}{e:List Expr}{α:Type}{t:α->G1}(h: ∀z,PGs X e (t z)):PGs X e (λv σ H Q=> ∃z,t z v σ H Q):=λa s σ H v u Q I r ⟨z,q⟩=>h z a s σ H v u Q I r q
section
variable {X:Cx}{c:Ct}{iter:Expr}{pos:Pos}{x:Str}{i:Nat}
def gN(i:Nat):FG:=λd ρ=>p5 (ρ.set i (.v d))
theorem aw(i:Nat)(b:X.N.Nodup)(f:X.N[i]? =p5 x:=by rfl)(l:CO X.env.scope x:=by first|exact TL rfl|exact Te rfl)(g:X.fn x=true\/X.env.scope.names.lookup x=some .local:=by first|exact .inl rfl|exact .inr rfl|assumption):
 vR X c (.Name x pos) (gN i):=λhid ρ d=>PG.imp (Lj (i:=i) b f l g) λv σ H Q a=>by
 obtain⟨k,r,ρ',e,q⟩:=a;cases e;refine q _ (k.setV r i) λj o=>?_
 have h:j≠i:=λe=>by
  subst e
  by_cases lt:j<ρ.length
  ·rw[Ta lt] at o;exact o
  ·rw[Wp (by nofun)] at o;exact o
 rw[SS (To h)] at o⊢;exact⟨o,rfl⟩
def m9:vS:=λds ρ=>match ds with
 | []=>p5 ρ
 |_=>Sr
def ij(g:FG)(a:vS):vS:=λds ρ=>match ds with
 | []=>Sr
 |d::r=>(g d ρ).bind λρ'=>a r ρ'
theorem cK:Qj X c [] m9:=λhid ρ d=>PGs.imp BF λv σ H Q a=>by
 obtain⟨b,r,ρ',e,q⟩:=a;unfold m9 at e;split at e
 ·cases e;cases r;exact⟨rfl,q σ b λi o=>⟨o,rfl⟩⟩
 nofun
theorem aM(l:vR X c e g)(i:Qj X c es gs)(k:(UQ (e::es) X.env).map (·.2)=VY e X.env::(UQ es X.env).map (·.2):=by rfl):Qj X c (e::es) (ij g gs):=λhid ρ d=>
 PGs.imp (xS (Hm λd=>l hid ρ d) (A6 λz:aB×List D=>i hid z.1 z.2) k) λv σ H Q f=>by
  obtain⟨m,r,ρ',e,q⟩:=f;cases d with
  |nil=>cases e
  |cons b ds=>
   cases r with
   |cons t s=>
    have e:(g b ρ).bind (λρ'=>gs ds ρ')=p5 ρ':=e;cases e1:g b ρ with
    |none=>nofun
    |some ρ1=>
     rw[e1] at e;exact⟨_,_,rfl,b,m,t,ρ1,e1,λn j h=>⟨(ρ1,ds),j,s,ρ',e,λa o p=>q a o (h.trans p)⟩⟩
def gT(n:Nat)(a:vS):FG:=λd ρ=>match d with
 | .tup ds=>if ds.length=n then a ds ρ else Sr
 |_=>Sr
theorem cH{j n:Nat}(l:X.calm=S1)(h:Qj X c es gs)(i:(UQ es X.env).length=n:=by rfl)(a:(UQ es X.env).findIdx? (·.1)=none:=by rfl):vR X c (.Tuple es j pos) (gT n gs):=λhid ρ d=>
 PG.imp (Hd l (A6 λds=>h hid ρ ds) i a) λv σ H Q b=>by
  obtain⟨k,r,ρ',e,q⟩:=b;unfold gT at e;split at e
  ·split at e
   ·cases r with
    |tup g f=>exact⟨_,_,rfl,SqT.of (bU _ _ _ _ g),by rw[f.length];omega,_,k,f,ρ',e,q⟩
   nofun
  nofun
def MT:Option aB->Out
 |some ρ=>.nx ρ
 |none=>.no
def eF(g:FG)(f:GE):FS:=λρ=>match f ρ with
 |some z=>MT (g z.1 z.2)
 |none=>.no
theorem pI(o:DE X c .s e f)(l:vR X c tg g)(i:XI [tg] e pos.line X.env=pure false:=by rfl)(hw:XJ [tg] e X.env=pure none:=by rfl)
 (j:(UQ [tg] X.env).map (·.2)=[VY tg X.env]:=by rfl):DS X c k (.Assign [tg] e pos) (eF g f):=λρ=>
 PS.imp (F2 (jM λhid=>o hid ρ) (Hm λz:bC×aB×D=>l z.1 z.2.1 z.2.2) i hw j) λD σ H b=>by
  obtain⟨hid,n,q⟩:=b;unfold eF at q;cases e1:f ρ with
  |none=>rw[e1] at q;exact q.elim
  |some z=>
   rw[e1] at q;cases e2:g z.1 z.2 with
   |none=>dsimp only at q;rw[e2] at q;exact q.elim
   |some ρ2=>
    dsimp only at q;rw[e2] at q;exact⟨hid,n,z.1,z.2,e1,λv d ⟨m,s',r⟩=>⟨(hid,z.2,z.1),s',r,ρ2,e2,λa h _=>q a d hid h m.vw⟩⟩
def cA(i:Nat)(a:FE)(d:D)(ρ:aB):Option aB:=match fW i ρ with
 |some bs=>(match a ρ with
  |some (.int j)=>(match vW bs.length j with
   |some m=>p5 (fu i (bs.set m d) ρ)
   |none=>Sr)
  |_=>Sr)
 |none=>Sr
theorem yk(h:cA i fi d ρ=p5 ρ'): ∃bs j m,fW i ρ=p5 bs/\fi ρ=p5 (.int j)/\vW bs.length j=p5 m/\ρ'=fu i (bs.set m d) ρ:=by
 grind[cA]
def QK(K:SA)(c:Ct)(hid:bC)(g:FG)(ρ:aB)(d:D):TG:=λv σ H Q=>SR K c hid ρ σ H/\Rep K (vw H hid) v d/\ ∃ρ',g d ρ=p5 ρ'/\ ∀a,lr hid H a->SR K c hid ρ' σ a->Q σ a
def Qm(X:Cx)(c:Ct)(a:Expr)(g:FG):Prop:= ∀hid ρ d,PG X a (QK X.K c hid g ρ d)
theorem fm(i:Nat)(C:DP X c k1 ix fi)(F:X.N[i]? =p5 y:=by rfl)(hv:lW X.env.scope y:=by first|exact TL rfl|exact Te (TL rfl)|exact Te (Te rfl))(E:(y==("__debug__":Str))=false:=by decide)(l:(y==("__classdict__":Str))=false:=by decide)
 (K: ∀v,VY (.Subscript (.Name y py) ix pos) X.env v=(do
   let ov <-WZ [v] (eval (.Name y py) X.env)
   let h <-WZ [v,ov] (eval ix X.env)
   YG pos
   WZ [v,ov,h] (setItem ov h v)
   release [v,ov,h] []):=by intro _;rfl):Qm X c (.Subscript (.Name y py) ix pos) (cA i fi):=λhid ρ d=>
 PG.imp (LV (pv i F hv E l) (C hid ρ) HF K) λv σ H Q p=>by
  obtain⟨g,r,ρ',e,q⟩:=p;obtain⟨bs,j,m,t,D,I,rfl⟩:=yk e;obtain⟨a,xs,u,G,J,x,M⟩:=g.held t;refine⟨.ref a,u,g,_,D,λw L f A=>?_⟩;have B:=(RK.b k1 A λa n=>g.fresh n).int;cases B;have k:=x.mono (aC (hid:=hid) f);refine⟨a,xs,j,m,rfl,rfl,f _ _ G,by rw[x.length];exact I,q _ (λb o z s=>?_) ?_⟩
  ·rw[az (λe=>by nofun)];exact f _ _ z
  ·exact(g.ext f).put t u (λb o z s=>by rw[az s];exact z) aA (by rw[bV J];exact Reps.set (r.mono (aC f)) m k)
theorem lY(o:DE X c .s e f)(j:Qm X c tg g)(d:XI [tg] e pos.line X.env=pure false:=by rfl)(hw:XJ [tg] e X.env=pure none:=by rfl)
 (i:(UQ [tg] X.env).map (·.2)=[VY tg X.env]:=by rfl):DS X c k (.Assign [tg] e pos) (eF g f):=λρ=>
 PS.imp (F2 (jM λhid=>o hid ρ) (Hm λz:bC×aB×D=>j z.1 z.2.1 z.2.2) d hw i) λD σ H a=>by
  obtain⟨hid,n,q⟩:=a;unfold eF at q;cases e1:f ρ with
  |none=>rw[e1] at q;exact q.elim
  |some z=>
   rw[e1] at q;cases e2:g z.1 z.2 with
   |none=>dsimp only at q;rw[e2] at q;exact q.elim
   |some ρ2=>
    dsimp only at q;rw[e2] at q;exact⟨hid,n,z.1,z.2,e1,λv p ⟨m,s',r⟩=>⟨(hid,z.2,z.1),s',r,ρ2,e2,λl h b=>q σ l hid b (m.trans h).vw⟩⟩
def QG(K:SA)(c:Ct)(hid:bC)(g:vS)(ρ:aB)(d:List D):G1:=λv σ H Q=>SR K c hid ρ σ H/\Reps K (vw H hid) v d/\ ∃ρ',g d ρ=p5 ρ'/\ ∀a,lr hid H a->SR K c hid ρ' σ a->Q σ a
def Qq(X:Cx)(c:Ct)(a:List Expr)(g:vS):Prop:= ∀hid ρ d,PGs X a (QG X.K c hid g ρ d)
theorem uE:Qq X c [] m9:=λhid ρ d=>PGs.imp BF λv σ H Q a=>by
 obtain⟨b,r,ρ',e,q⟩:=a;unfold m9 at e;split at e
 ·cases e;cases r;exact⟨rfl,q H (.of (ab.refl _)) b⟩
 nofun
theorem gI(l:Qm X c e g)(h:Qq X c es gs)(k:(UQ (e::es) X.env).map (·.2)=VY e X.env::(UQ es X.env).map (·.2):=by rfl):Qq X c (e::es) (ij g gs):=λhid ρ d=>
 PGs.imp (xS (Hm λd=>l hid ρ d) (A6 λz:aB×List D=>h hid z.1 z.2) k) λv σ H Q b=>by
  obtain⟨n,r,ρ',e,q⟩:=b;cases d with
  |nil=>cases e
  |cons a ds=>
   cases r with
   |cons s p=>
    have e:(g a ρ).bind (λρ'=>gs ds ρ')=p5 ρ':=e;cases e1:g a ρ with
    |none=>nofun
    |some ρ1=>
     rw[e1] at e;exact⟨_,_,rfl,a,n,s,ρ1,e1,λt f i=>⟨(ρ1,ds),i,p.mono f.vw,ρ',e,λm j o=>q m (f.trans j) o⟩⟩
theorem tS{j n:Nat}(l:X.calm=S1)(h:Qq X c es gs)(i:(UQ es X.env).length=n:=by rfl)(a:(UQ es X.env).findIdx? (·.1)=none:=by rfl):Qm X c (.Tuple es j pos) (gT n gs):=λhid ρ d=>
 PG.imp (Hd l (A6 λds=>h hid ρ ds) i a) λv σ H Q b=>by
  obtain⟨k,r,ρ',e,q⟩:=b;unfold gT at e;split at e
  ·split at e
   ·cases r with
    |tup g f=>exact⟨_,_,rfl,SqT.of (bU _ _ _ _ g),by rw[f.length];omega,_,k,f,ρ',e,q⟩
   nofun
  nofun
def pk(K:SA)(W:Hp)(J:It)(ds:List D):Prop:=
 (∀(i:Nat) (d:D) (H:Hp),ds[i]? =p5 d->ab W H->J.go i H/\ ∀x a,J.yld i H x a->ab H a/\ ∀hid:bC,(∀b,hid b=S1-> ∃o,H b=p5 o)->ab W (vw H hid)->Rep K (vw a hid) x d)/\ ∀H,ab W H->J.stop ds.length H
def Sm(K:SA)(c:Ct)(hid:bC)(f:GA)(ρ:aB):TI:=λσ H R=>SR K c hid ρ σ H/\ ∃ds ρ',f ρ=p5 (ds,ρ')/\ ∀J a,lr hid H a->SR K c hid ρ' σ a->pk K (vw a hid) J ds->R J a
def DI(X:Cx)(c:Ct)(b a:Expr)(f:GA):Prop:= ∀hid ρ,PI X b a (Sm X.K c hid f ρ)
theorem PI.imp {t t':TI}(h:PI X tg iter t)(i: ∀σ H Q,t' σ H Q->t σ H Q):PI X tg iter t':=λa s σ H R I q=>h a s σ H R I (i σ H R q)
theorem QL {α:Type}{t:α->TI}(h: ∀z,PI X tg iter (t z)):PI X tg iter (λσ H R=> ∃z,t z σ H R):=λa s σ H R I ⟨z,q⟩=>h z a s σ H R I q
theorem FP {K:SA}(h:SqT K W a xs)(r:Reps K W xs ds):pk K W (Rc K a) ds:=by
 refine⟨λi d H e s=>?_,λH s=>⟨xs,ab.seqT s h,by rw[r.length];simp⟩⟩;obtain⟨x,b,j⟩:=r.get e;refine⟨⟨xs,x,ab.seqT s h,b⟩,λy k ⟨c,f⟩=>?_⟩;subst c;have:=f xs (ab.seqT s h);rw[b] at this;cases this;exact⟨ab.refl _,λhid _ g=>j.mono g⟩
def CQ(a:Int)(n:Nat):List D:=(Su n).map λ(i:Nat)=>D.int (a+i)
theorem zh {K:SA}{a:Int}:pk K W (Ql a n) (CQ a n):=by
 refine⟨λi d H e s=>?_,λH s=>by show n<=(CQ a n).length;simp[CQ]⟩;unfold CQ at e;rw[Uh] at e;cases e1:(Su n)[i]? with
 |none=>nofun
 |some j=>
  rw[e1] at e;obtain⟨c,b⟩:=SK.mp e1;simp at c b;subst b;cases e;refine⟨c,λy h ⟨f,g⟩=>?_⟩;subst f g;exact⟨ab.refl _,λhid _ k=>.int⟩
def cu(g:FG)(b:FS):List D->FS
 | [],ρ=>.nx ρ
 |d::r,ρ=>match g d ρ with
  |none=>.no
  |some ρ1=>match b ρ1 with
   | .nx ρ2=>cu g b r ρ2
   | .ct ρ2=>cu g b r ρ2
   | .bk ρ2=>.nx ρ2
   | .rt d ρ2=>.rt d ρ2
   | .no=>.no
def h8(f:GA)(g:FG)(b:FS):FS:=λρ=>match f ρ with
 |some (ds,ρ')=>cu g b ds ρ'
 |none=>.no
theorem cv(hp:jbz (model X.prog X.w) X.A X.env X.xe)(hc:X.calm=S1)(hi:DI X c tg iter f)(O:vR X c tg g)(N:z7 X c k body tb)
 (hs: ∀x,TY iter X.env x=pure x:=by intro _;rfl):DS X c k (.For tg iter body [] pos) (h8 f g tb):=λρ=>
 PS.imp (Nc hp hc (QL λhid=>hi hid ρ) (Hm λz:bC×aB×D=>O z.1 z.2.1 z.2.2) (EH λρ=>N ρ) hs) λD σ H F=>by
  obtain⟨hid,R,q⟩:=F;unfold h8 at q;cases e1:f ρ with
  |none=>rw[e1] at q;exact q.elim
  |some z=>
   obtain⟨ds,r⟩:=z;rw[e1] at q;have S:ey X.K c k D (vw H hid) (cu g tb ds r):=q;refine⟨hid,R,ds,r,e1,λJ B V Z it=>?_⟩;refine⟨λi m σ H=>m=ds.length-i/\i<=ds.length/\ ∃a ρ2,SR X.K c a ρ2 σ H/\ab (vw B hid) (vw H a)/\ey X.K c k D (vw H a) (cu g tb (ds.drop i) ρ2),⟨ds.length,by rfl,Ur _,hid,r,Z,ab.refl _,ey.mono S V.vw⟩,?_⟩;rintro i m C u ⟨rfl,hi',a,ρ2,E,v,b⟩;have L:ab (vw B hid) u:=v.trans (bU _ _)
   by_cases s:i<ds.length
   ·have Q:ds[i]? =p5 ds[i]:=SJ s;have P:ds.drop i=ds[i]::ds.drop (i+1):=WP s;rw[P] at b;unfold cu at b;obtain⟨Y,yl⟩:=it.1 i ds[i] u Q L;refine .inr ⟨Y,λj p=> ∃o l,SR X.K c o l j p/\ab (vw B hid) (vw p o)/\ey X.K c k D (vw p o) (cu g tb (ds.drop (i+1)) l),λj p W=>⟨ds.length- (i+1),by grind,rfl,s,W⟩,λx I y=>?_⟩;obtain⟨G,T⟩:=yl x I y;have rx:=T a E.tr v;cases e3:g ds[i] ρ2 with
    |none=>rw[e3] at b;exact b.elim
    |some l=>
     rw[e3] at b;refine⟨(a,ρ2,ds[i]),E.ext G,rx,l,e3,λM U _=>⟨l,a,U,?_⟩⟩;have t:ab (vw u a) (vw I a):=aC G;dsimp only at b;cases e4:tb l with
     |nx n=>rw[e4] at b;exact λj p h z w=>⟨h,n,z,(v.trans t).trans w,ey.mono b (t.trans w)⟩
     |ct n=>rw[e4] at b;exact λj p h z w=>⟨h,n,z,(v.trans t).trans w,ey.mono b (t.trans w)⟩
     |bk n=>rw[e4] at b;exact λj p h z w=>b j p h z (t.trans w)
     |rt d n=>rw[e4] at b;exact b
     |no=>rw[e4] at b;exact b.elim
   ·have e:i=ds.length:=by grind
    subst e;rw[Xg (SB _)] at b;exact .inl ⟨it.2 u L,b C u a E (ab.refl _)⟩
def jA(p:FT)(b:FS):Nat->FS
 |0,_=>.no
 |n+1,ρ=>match p ρ with
  |none=>.no
  |some false=>.nx ρ
  |some true=>match b ρ with
   | .nx ρ2=>jA p b n ρ2
   | .ct ρ2=>jA p b n ρ2
   | .bk ρ2=>.nx ρ2
   | .rt d ρ2=>.rt d ρ2
   | .no=>.no
theorem gO(n:Nat){p:FT}{tb:FS}(hp:jbz (model X.prog X.w) X.A X.env X.xe)(hc:DT X c e p)(hb:z7 X c k body tb):DS X c k (.While e body [] pos) (jA p tb n):=λρ=>
 PS.imp (Hy hp (Qa λz:bC×aB=>hc z.1 z.2) (EH λρ=>hb ρ)) λD σ H hq_=>by
  obtain⟨hid,sr,q⟩:=hq_;refine⟨λm σ H=> ∃hid2 ρ2,SR X.K c hid2 ρ2 σ H/\ey X.K c k D (vw H hid2) (jA p tb m ρ2),⟨n,hid,ρ,sr,q⟩,?_⟩;rintro m σ2 H2 ⟨hid2,ρ2,s2,q2⟩;cases m with
  |zero=>exact q2.elim
  |succ m=>
   unfold jA at q2;cases e1:p ρ2 with
   |none=>rw[e1] at q2;exact q2.elim
   |some b=>
    rw[e1] at q2;refine⟨(hid2,ρ2),s2,b,e1,λH3 s3=>?_⟩;cases b with
    |false=>exact Jf (q2 σ2 H3 hid2 (s2.ext s3) (aC s3))
    |true=>
     refine Kg ⟨λσ' H'=> ∃hid3 ρ3,SR X.K c hid3 ρ3 σ' H'/\ey X.K c k D (vw H' hid3) (jA p tb m ρ3),λσ' H' n3=>⟨m,WH _,n3⟩,ρ2,hid2,s2.ext s3,?_⟩;have w3:ab (vw H2 hid2) (vw H3 hid2):=aC s3;dsimp only at q2;cases e4:tb ρ2 with
     |nx ρ5=>rw[e4] at q2;exact λσ' H' hid' z w=>⟨hid',ρ5,z,ey.mono q2 (w3.trans w)⟩
     |ct ρ5=>rw[e4] at q2;exact λσ' H' hid' z w=>⟨hid',ρ5,z,ey.mono q2 (w3.trans w)⟩
     |bk ρ5=>rw[e4] at q2;exact λσ' H' hid' z w=>q2 σ' H' hid' z (w3.trans w)
     |rt d ρ5=>rw[e4] at q2;exact q2
     |no=>rw[e4] at q2;exact q2.elim
end
def mK(n:Nat)(ds:List D):aB:=ds.map Sl.v++SN (n-ds.length) .no
def bL(kd:Kd)(n:Nat)(t:FS)(ds:List D):Option D:=match t (mK n ds) with
 | .rt d _=>p5 d
 | .nx _=>(match kd with
   | .n=>Sr
   |_=>p5 .non)
 |_=>Sr
def oY(n:Nat)(bs ds:List D):aB:=.arg bs::(ds.map Sl.v++SN (n-1-ds.length) .no)
def qt:aB->Option (List D)
 | .arg bs::_=>p5 bs
 |_=>Sr
def xZ(kd:Kd)(n:Nat)(t:FS)(bs ds:List D):Option (D×List D):=match t (oY n bs ds) with
 | .rt d ρ=>(qt ρ).map λb=>(d,b)
 | .nx ρ=>(match kd with
   | .n=>Sr
   |_=>(qt ρ).map λb=>(.non,b))
 |_=>Sr
theorem GV {K:SA}{c:Ct}(m:Nat): ∀ {vs:List V} {ds:List D},Reps K (vw H hid) vs ds-> ∀(i:Nat) (s:Sl),(ds.map Sl.v++SN m .no)[i]? =p5 s->uv K c hid (vs.map p5++SN m Sr) H i s:=by
 intro vs ds r i s e;have g:=r.length
 by_cases f:i<ds.length
 ·rw[TF (by nofun),Uh] at e;have a:ds[i]? =p5 ds[i]:=SJ f;rw[a] at e;cases e;obtain⟨x,d,b⟩:=r.get a;exact⟨x,by rw[TF (by nofun),Uh,d];rfl,b⟩
 ·rw[Ue (by nofun),Uu] at e;split at e
  ·cases e;trivial
  nofun
theorem Ph {ds:List D}{m i:Nat}: ¬Ow (ds.map Sl.v++SN m Sl.no)[i]? :=λo=>by
 by_cases a:i<ds.length
 ·rw[TF (by nofun),Uh,SJ a] at o;exact o
 ·rw[Ue (by nofun),Uu] at o;split at o<;>exact o
theorem SR.begins {K:SA}{N:List Str}(c:P5 hid H)(r:Reps K (vw H hid) vs ds):SR K ⟨H,hid,λ_=>Pa⟩ hid (mK N.length ds) (start N vs) H:=by
 have d:=r.length;unfold start mK;rw[d];exact⟨c.1,c.2,λ_ h=>h,λ_ _ h _=>h,λb o h=>⟨o,h⟩,c.1,(λ_ h=>nomatch h),by simp[d],λi s e=>GV _ r i s e,λi j a _ o=>absurd o Ph⟩
section
variable {K:SA}{st:Stmt}{N ps:List Str}
theorem B9(F:Fun K x qual st f fd)(S:bg N ps (av st))(l:kd≠ .b)
 (j: ∀(c:Sw) (A:Tr) (a:List Env) (s:Sx) (H:Hp) (hid:bC) (E:XK),fq k (A.deeper (XW qual (av st) s.heap.objs.size f c))->
   z7 (qT vV P w K mg base N qual (av st) f c A a s H E).nox ⟨H,hid,λ_=>Pa⟩ kd (c6 st) t):
 j3 P w K mg base vV (k+1) f fd ps (spP K kd ps.length (bL kd N.length t)):=by
 refine F.ok S (λvs H Q E h=>?_) (λc A a s H vs Q E C h=>?_)
 ·obtain⟨hid,ds,_,r,p,_⟩:=h;rw[r.length,p]
 ·obtain⟨hid,ds,D,r,p,d,i,q⟩:=h;refine⟨_,j c A a s H hid E C (mK N.length ds),hid,SR.begins D r,?_⟩;unfold bL at i;cases e:t (mK N.length ds) with
  |nx ρ=>
   rw[e] at i;intro B g u y _;have m:ab H g:=λb o z=>y.kp b o z rfl
   cases kd with
   |b=>exact absurd rfl l
   |s=>cases i;exact q _ g m .non
   |n=>nofun
  |rt d' ρ=>
   rw[e] at i;cases i;intro v g R;have m:ab H g:=λb o z=>R.kp b o z rfl
   cases kd with
   |b=>exact absurd rfl l
   |s=>exact q v g m R.val
   |n=>exact q v g m R.val
  |bk ρ=>nofun
  |ct ρ=>nofun
  |no=>nofun
theorem SR.beginsE(k:P5 hid H)(p:hid a=S1)(l:H a=p5 (.lst xs))(q:Reps K (vw H hid) xs bs)(r:Reps K (vw H hid) us ds)(A:0<N.length):
 SR K ⟨H,hid,λb=>decide (b=a)⟩ hid (oY N.length bs ds) (start N (.ref a::us)) H:=by
 have m:=r.length;have es:start N (.ref a::us)=p5 (V.ref a)::(us.map p5++SN (N.length-1-ds.length) Sr):=by
  unfold start;grind
 rw[es];unfold oY;refine⟨k.1,k.2,λ_ h=>h,λ_ _ h _=>h,λb o h=>⟨o,h⟩,k.1,λb h=>?_,by simp[m],λi s e=>?_,λi j z n t u y w=>?_⟩
 ·nofun
 ·cases i with
  |zero=>
   cases e;exact⟨a,xs,rfl,l,p,by simp,q⟩
  |succ i=>
   have z:=GV (c:=⟨H,hid,λb=>decide (b=a)⟩) (N.length-1-ds.length) r i s (by simpa using e);cases s with
   |no=>trivial
   |v d=>obtain⟨x,g,f⟩:=z;exact⟨x,by simpa using g,f⟩
   |own ds=>obtain⟨x,xs,g,f⟩:=z;lia
   |arg ds=>obtain⟨x,xs,g,f⟩:=z;exact⟨x,xs,by simpa using g,f⟩
   |ob b=>grind
 ·grind[Ph]
theorem Ci(h:qt ρ=p5 b):ρ[0]? =p5 (.arg b):=by
 unfold qt at h;grind
theorem MW(F:Fun K x qual st f fd)(S:bg N ps (av st))(y:kd≠ .b)(Z:ps.length=n+1)
 (m: ∀(l:Sw) (A:Tr) (c:List Env) (s:Sx) (H:Hp) (hid:bC) (a:Addr) (E:XK),fq k (A.deeper (XW qual (av st) s.heap.objs.size f l))->
   z7 (qT vV P w K mg base N qual (av st) f l A c s H E).nox ⟨H,hid,λb=>decide (b=a)⟩ kd (c6 st) t):
 j3 P w K mg base vV (k+1) f fd ps (spE K kd n (xZ kd N.length t)):=by
 refine F.ok S (λvs H Q E h=>?_) (λl A c s H vs Q E U h=>?_)
 ·obtain⟨hid,a,xs,bs,us,ds,rfl,_,_,_,_,r,C,_⟩:=h;rw[SX,r.length,C,Z]
 ·obtain⟨hid,a,xs,bs,us,ds,rfl,tr,Y,X,W,r,C,d,u,i,q⟩:=h;have T:0<N.length:=by have:=congrArg Ua S.pre;grind
  refine⟨_,m l A c s H hid a E U (oY N.length bs ds),hid,SR.beginsE tr Y X W r T,?_⟩;have fin: ∀(v:V) (g:Hp) (ρ:aB) (d:D),Ret K ⟨H,hid,λb=>decide (b=a)⟩ kd ρ g v d->qt ρ=p5 u->(∀v g j,(∀b o,H b=p5 o->b≠a->g b=p5 o)->g a=p5 (.lst j)->OA K kd hid H g v d j u->Q v g)->Q v g:=by
   intro v g ρ d R M q;obtain⟨J,j,m1,m2,G⟩:=R.arg 0 _ (Ci M);have:J=a:=by simpa using m1
   subst this;refine q v g j (λb o z n=>R.kp b o z (by simpa using n)) m2 ?_
   cases kd with
   |b=>exact absurd rfl y
   |s=>exact⟨R.val,G⟩
   |n=>
    obtain⟨p,ys,es,rfl,rfl,h1,L,h3⟩:=R.val;exact⟨p,ys,es,rfl,rfl,h1,L,h3,G⟩
  unfold xZ at i;cases e:t (oY N.length bs ds) with
  |nx ρ=>
   rw[e] at i;intro O g I B _;cases kd with
   |b=>exact absurd rfl y
   |s=>
    dsimp only at i;cases e0:qt ρ with
    |none=>nofun
    |some b=>
     rw[e0] at i;cases i;exact fin .non g ρ .non (LA (k:=.s) (by omega) (B.post (k:=.s) (ab.refl _) .non (by omega)) B.h0) e0 q
   |n=>nofun
  |rt d' ρ=>
   rw[e] at i;dsimp only at i;cases e0:qt ρ with
   |none=>nofun
   |some b=>
    rw[e0] at i;cases i;intro v g R;exact fin v g ρ _ R e0 q
  |bk ρ=>nofun
  |ct ρ=>nofun
  |no=>nofun
end
def Bo(K:SA):Sp:=λvs H Q _=> ∃(a:Addr) (ns:List Int),vs=[.ref a]/\SqR K H a (ns.map V.int)/\ns.length<=63/\ ∀b,Q (.bl S1) b
theorem tu {K:SA}: ∀ns:List Int,Reps K F (ns.map V.int) (ns.map D.int)
 | []=>.nil
 |_::r=>.cons .int (tu r)
theorem Nt {P:S9}{w:Tu}{K:SA}{base:Heap}{x:Str}(F:j3 P w K mg base vV k f fd [x] (spP K .s 1 M))(j: ∀ns:List Int,ns.length<=63->M [.scr (ns.map D.int)]=p5 (.bl S1)):
 j3 P w K mg base vV k f fd [x] (Bo K):=F.imp λvs H Q E c=>by
 obtain⟨a,ns,e,d,i,q⟩:=c;subst e;have hv:vw H (λ_=>Pa)=H:=by rfl
 refine⟨λ_=>Pa,[.scr (ns.map D.int)],⟨(λb h=>nomatch h),(λb xs h=>nomatch h)⟩,?_,rfl,.bl S1,j ns i,λv g _ r=>?_⟩
 ·rw[hv];exact .cons (.scr d (tu ns)) .nil
 ·cases r;exact q g
theorem walkD {l:jeB}{k:Nat}{x:Str}{d:DefRec}{K:Params->SA}(j:l.most=p5 63)(c:d.params.defaults=[])(p:fq k Zr)
 (m: ∀(w:Tu) (h:Heap),YP w h->(K w.params).In h)
 (F: ∀(w:Tu) (b:Str->Option Sw) (g:Addr) (h:Heap),(K w.params).In h->h.Ns UC b->b d.name=p5 (.ref g)->
   ∃i:Vu,(∀(s:Sx) (u:Sw),jaW s i ⟨[u],[]⟩ [(x,u)])/\ ∀base:Heap,(K w.params).In base->base.Ns UC b->j3 l.prog w (K w.params) b base vV k g i [x] (Bo (K w.params))):
 W.WalkO q loose XP YP l.row.toRowW d [] (λf vs=>jcW f vs):=
 Lake.walk_of (n:=63) (k:=k) (x:=x) (CX:=λ_=>vV) (sp:=λw=>Bo (K w.params)) j () c p m F (λ_ H a ns v y t=>⟨a,ns,rfl,t.elim (λr=>r.elim (λe=>by rcases y a with z|⟨o,xs,z⟩<;>rw[z] at e<;>cases e) .inl) .inr,v,λ_=>rfl⟩) λ_ _ _ _ _ z=>z
def vT(a:List (Str×Addr)):List (Str×Vk)->List (Str×Addr)->List (Str×Addr)
 | [],acc=>acc
 |(n,k)::r,acc=>vT a r (if k== .free then(match a.lookup n with
  |some c=>(n,c)::acc
  |none=>acc) else acc)
theorem vG {a:List (Str×Addr)}: ∀ {names:List (Str×Vk)} {acc:List (Str×Addr)},(∀p∈acc,a.lookup p.1=p5 p.2)-> ∀p∈vT a names acc,a.lookup p.1=p5 p.2
 | [],acc,h,p,d=>h p d
 |(n,k)::r,acc,h,p,d=>by
  refine vG (names:=r) ?_ p d;intro q b;split at b
  ·split at b
   ·rename_i c e
    grind
   ·exact h q b
  ·exact h q b
theorem xY: ∀ {names:List (Str×Vk)} {acc:List (Str×Addr)} (p:Str×Addr),p∈vT cells names acc->p∈acc\/(p.1,UW)∈names
 | [],acc,p,a=>.inl a
 |(n,k)::r,acc,p,a=>by
  rcases xY (names:=r) p a with b|b
  ·grind
  ·exact .inr (SI _ b)
theorem xa: ∀ {names:List (Str×Vk)} {acc:List (Str×Addr)} {p:Str×Addr},p∈acc->p∈vT cells names acc
 | [],acc,p,h=>h
 |(n,k)::r,acc,p,h=>by
  refine xa (names:=r) ?_
  split
  ·grind[SI]
  omega
theorem z8 {a:List (Str×Addr)}(b:a.lookup x=p5 c): ∀ {names:List (Str×Vk)} {acc:List (Str×Addr)},(x,UW)∈names->(x,c)∈vT a names acc
 | [],_,h=>nomatch h
 |(n,k)::r,acc,h=>by
  rcases S6.mp h with e|h
  ·cases e;refine xa (names:=r) ?_
   grind
  ·exact z8 b (names:=r) h
theorem qU {l:List (Str×Addr)}(h:(x,c)∈l)(u: ∀p∈l,p.1=x->p.2=c):l.lookup x=p5 c:=by
 induction l with
 |nil=>nofun
 |cons p r a=>
  grind
theorem yf {a:List (Str×Addr)}(h:(vT a names []).lookup x=p5 c):a.lookup x=p5 c:=
 vG (names:=names) (acc:=[]) (λ_ z=>nomatch z) (x,c) (T0 h)
theorem m7 {a:List (Str×Addr)}(b:a.lookup x=p5 c)(d:(x,UW)∈names):(vT a names []).lookup x=p5 c:=
 qU (z8 b d) λp f e=>by
  grind[vG]
theorem dX {scope:Vj}{a:Env}(h: ∀x,(x,UW)∈scope.names-> ∃c,a.cells.lookup x=p5 c):closureFor scope a=pure (vT a.cells scope.names []):=by
 unfold closureFor;have f: ∀(names:List (Str×Vk)) (acc:List (Str×Addr)),(∀x,(x,UW)∈names-> ∃c,a.cells.lookup x=p5 c)->
  (forIn names acc (λ(p:Str×Vk) (r:List (Str×Addr))=>match p with
    |(name,d)=>if(d==UW)=S1 then do
       let b <-cellOf a name
       pure (ForInStep.yield ((name,b)::r)) else pure (ForInStep.yield r)):Sem (List (Str×Addr)))=pure (vT a.cells names acc):=by
  intro names
  induction names with
  |nil=>intro acc _;rfl
  |cons p r g=>
   intro acc h;obtain⟨n,k⟩:=p;rw[List.forIn_cons];have j: ∀x,(x,UW)∈r-> ∃c,a.cells.lookup x=p5 c:=λx m=>h x (SI _ m)
   cases e:k==UW with
   |false=>
    simp only[e,SW,if_false,pure_bind];rw[g acc j]
    conv=>rhs;unfold vT
    simp[e]
   |true=>
    have o:k=.free:=by simpa using e
    subst o;obtain⟨c,i⟩:=h n SM;have l:cellOf a n=pure c:=by unfold cellOf;rw[i]
    simp only[beq_self_eq_true,if_true,l,pure_bind];rw[g _ j]
    conv=>rhs;unfold vT
    simp[i]
 have:=f scope.names [] h;simp only[this,pure_bind]
theorem gW {b:Vj}(h:(XM b env).names.lookup x=p5 k): ∃a,b.names.lookup x=p5 a/\(k=a\/(a=.free/\k=.cell)):=by
 unfold XM at h;dsimp only at h;generalize b.names=l at h⊢
 induction l with
 |nil=>grind
 |cons p r d=>
  obtain⟨n,c⟩:=p;grind
def qw(a:List (Str×Addr))(scope:Vj)(C:Addr):List (Str×Addr):=U1 (C+1) scope.names (vT a scope.names [])
theorem bz: ∀(names:List (Str×Vk)) (n:Nat) (acc:List (Str×Addr)),U1 n names acc=U1 n names []++acc
 | [],_,_=>rfl
 |(name,a)::r,n,acc=>by
  unfold U1;split
  ·rw[bz r (n+1) ((name,n)::acc),bz r (n+1) [(name,n)],Wt];rfl
  ·exact bz r n acc
theorem vg: ∀ {names:List (Str×Vk)} {n:Nat} {p:Str×Addr},p∈U1 n names []->(p.1,WV)∈names
 | [],_,_,h=>nomatch h
 |(name,a)::r,n,p,h=>by
  unfold U1 at h;split at h
  ·rename_i c
   have b:a=.cell:=by simpa using c
   subst b;rw[bz] at h;rcases Tf.mp h with h|h
   ·exact SI _ (vg h)
   nofun
  ·exact SI _ (vg h)
theorem mt: ∀ {names:List (Str×Vk)} {n:Nat} {x:Str},(x,WV)∈names-> ∃c,(x,c)∈U1 n names []
 | [],_,_,h=>nomatch h
 |(name,a)::r,n,x,h=>by
  unfold U1;rcases S6.mp h with e|h
  ·cases e;rw[if_pos (by rfl),bz];exact⟨n,Tt _ SM⟩
  ·split
   ·obtain⟨c,b⟩:=mt (n:=n+1) h;grind[bz]
   ·exact mt h
theorem zx {l:List (Str×Addr)}{c:Addr}(h:(x,c)∈l): ∃b,l.lookup x=p5 b:=by
 induction l with
 |nil=>nofun
 |cons p r d=>
  obtain⟨n,a⟩:=p;rw[List.lookup_cons];cases e:x==n with
  |true=>exact⟨a,rfl⟩
  |false=>
   nofun
theorem ee{a:Vj}(h:(qw cells a C).lookup x=p5 c):(x,c)∈U1 (C+1) a.names []\/(vT cells a.names []).lookup x=p5 c:=by
 unfold qw at h;rw[bz,Ys] at h;cases e:(U1 (C+1) a.names []).lookup x with
 |none=>rw[e] at h;exact .inr h
 |some b=>rw[e] at h;cases h;exact .inl (T0 e)
theorem EN{a:Vj}(h:(x,WV)∈a.names): ∃c,(qw cells a C).lookup x=p5 c:=by
 obtain⟨c,b⟩:=mt (n:=C+1) h;obtain⟨d,e⟩:=zx b;exact⟨d,by unfold qw;rw[bz,Ys,e];rfl⟩
theorem xg{a:Vj}(h:(x,WV)∉a.names):(qw cells a C).lookup x=(vT cells a.names []).lookup x:=by
 unfold qw;rw[bz,Ys];cases e:(U1 (C+1) a.names []).lookup x with
 |none=>rfl
 |some b=>exact absurd (vg (T0 e)) h
theorem Aj{s:Sx}{scope:Vj}{a:Addr}
 (f: ∀h',h'.Ns s.heap.objs.size (λ_=>Sr)->(∀b o,s.heap.get? b=p5 o->h'.get? b=p5 o)->CellsOk h' (s.heap.objs.size+1) (U1 (s.heap.objs.size+1) scope.names [])->
   Q (newEnv scope s.heap.objs.size a (U1 (s.heap.objs.size+1) scope.names closure) qual Sr .none (p5 outer) jay) {s with heap:=h',toks:=s.toks}):
 SL M A (Yt scope a closure [] qual Sr .none (p5 outer)) Q E s:=by
 simp only[Yt,jaz,if_true];refine Ss (jbY ?_);refine Ss (wpAny_layCells _ (λname d c=>by rfl) _ _ _ _ ?_);have ok:=cellsFrom_ok scope.names (s.heap.push {cls:=.type "dict",data:=.dict #[]}) (s.heap.objs.size+1) [] ⟨λ_ _ g=>(nomatch g),Wu⟩ (by simp);rw[UY] at ok;rw[show({s with heap:=s.heap.push {cls:=.type "dict",data:=.dict #[]}}:Sx).heap.objs.size=s.heap.objs.size+1 from UY ..];rw[List.forIn_nil];refine Ss (Sv (Sv ?_));exact f _ ((Heap.Ns.new s.heap (.type "dict")).keeps (pushCells_keeps _ _)) (λb o e=>pushCells_keeps _ _ b o (Sy _ e)) ok
def aE(X:Cx)(N':List Str)(scope:Vj)(C:Addr)(s₀:Sx)(H₀:Hp)(ex:List Addr):Cx where
 prog:=X.prog
 w:=X.w
 K:=X.K
 mg:=X.mg
 base:=X.base
 A:=X.A
 N:=N'
 s₀:=s₀
 H₀:=H₀
 env:=jbc scope (qw X.env.cells scope C) C X.env
 outer:=X.stack
 stack:=X.stack
 ex:=ex
 fn:=λx=>scope.names.lookup x==p5 .local||scope.names.lookup x==p5 .cell
 calm:=X.calm
 pn:=[]
 xe:=λ_ _=>False
def Bx(N N':List Str)(a:Vj):Bool:=
 decide (N.length<=N'.length)&&((N'.take N.length).zip N).all (λp=>(p.1==p.2&& !(a.names.lookup p.1==p5 .local)&& !(a.names.lookup p.1==p5 .cell))||(a.names.lookup p.1).isNone)&&
  (N'.drop N.length).all λx=>a.names.lookup x==p5 .local||a.names.lookup x==p5 .cell
def Bb(b:Vj)(a:Vj):Bool:=
 b.names.all λy=>(y.2 != .cell||b.names.lookup y.1==p5 .cell)&&(y.2 != .local||b.names.lookup y.1==p5 .local)&&(y.2 != .free||(b.names.lookup y.1==p5 .free&&(a.names.lookup y.1==p5 .cell||a.names.lookup y.1==p5 .free)))
theorem wT {a o:Vj}(h:Bb a o=S1): ∀y∈a.names,y.2=.cell->a.names.lookup y.1=p5 .cell:=λy b e=>by
 have:=TZ.mp h y b;lia
theorem i9 {a o:Vj}(h:Bb a o=S1): ∀y∈a.names,y.2=.local->a.names.lookup y.1=p5 .local:=λy b e=>by
 have:=TZ.mp h y b;grind
theorem gG {a o:Vj}(h:Bb a o=S1): ∀x,(x,UW)∈a.names->o.names.lookup x=p5 .cell\/o.names.lookup x=p5 .free:=λx b=>by
 have:=TZ.mp h _ b;nofun
theorem sq {a o:Vj}(h:Bb a o=S1): ∀x,(x,UW)∈a.names->a.names.lookup x=p5 .free:=λx b=>by
 have:=TZ.mp h _ b;grind
theorem Cp {N N':List Str}{a:Vj}(h:Bx N N' a=S1){i:Nat}(b:i<N.length)(e:N'[i]? =p5 x)(hv: ∃k,a.names.lookup x=p5 k/\(k=.local\/k=.cell\/k=.free)):N[i]? =p5 x/\a.names.lookup x=p5 .free:=by
 unfold Bx at h;simp only[TR,vu] at h;obtain⟨⟨j,f⟩,_⟩:=h;have d:N[i]? =p5 N[i]:=SJ b;have c:(N'.take N.length)[i]? =p5 x:=by rw[YT b];exact e
 have g:(x,N[i])∈(N'.take N.length).zip N:=by
  refine Tj (i:=i) ?_
  rw[U4];exact⟨c,d⟩
 grind
theorem Jy {N N':List Str}(h:Bx N N' sc=S1):N.length<=N'.length:=by
 unfold Bx at h;grind
section
variable {X:Cx}{scope:Vj}{N':List Str}
theorem CM(I:Inv X aa σ H s)(f:ik X aa H b):b∉frs X.stack:=λz=>by
 rcases S6.mp (I.stkSub b z) with e|z
 ·exact f.2.1 e
 ·exact f.2.2.1 z
theorem wj {h':Heap}{tk:Nat}(I:Inv X aa σ H s)(hF: ∀b∈fp,ik X aa H b)(hO: ∀b∈fp,∃o,s.heap.get? b=p5 o)(hk:scope.kind=.function)(hs:Bb scope X.env.scope=S1)(hn:Bx X.N N' scope=S1)
 (ns:h'.Ns s.heap.objs.size λ_=>Sr) (kp: ∀b o,s.heap.get? b=p5 o->h'.get? b=p5 o) (oc:CellsOk h' (s.heap.objs.size+1) (U1 (s.heap.objs.size+1) scope.names [])):
 Inv (aE X N' scope s.heap.objs.size s H fp) [] (σ++SN (N'.length-X.N.length) Sr) H {s with heap:=h',toks:=tk}:=by
 have hlen:=Jy hn;have cl: ∀x c,(vT X.env.cells scope.names []).lookup x=p5 c->X.env.cells.lookup x=p5 c:=λx c e=>yf e
 have clt: ∀x c,(vT X.env.cells scope.names []).lookup x=p5 c->c<s.heap.objs.size:=λx c e=>let⟨_,z⟩:=I.cell x c (cl x c e);z.lt
 have newC:H s.heap.objs.size=none:=I.hok.fresh (SB _)
 refine⟨⟨I.ok.mod,hk,I.ok.glob,I.ok.blt,SB _,λx y c h1 h2=>?_,λx hx=>?_,λx c h1 h2=>?_,I.ok.hd,I.ok.frames,.inl rfl,λb hb=>⟨?_,λx c e=>?_⟩,I.bs,Tz I.ok.bsz I.sz,λb o e hb=>?_,λb hb=>CM I (hF b hb),I.stack,I.stkFree⟩,
  rfl,I.bare,Un.kept kp,⟨_,ns,λi x v e1 e2 e3=>?_⟩,λx c e=>?_,newC,λx c e=>?_,λp hp=>absurd (show p∈([]:List (Addr×Obj)) from hp) (by simp),I.hok.kept kp,?_⟩
 ·
  rcases ee h1 with h1|h1<;>rcases ee h2 with h2|h2
  ·exact name_of_addr oc.apart h1 h2
  ·exact absurd (clt y c h2) (We.mpr (Wx (oc.empty _ _ h1).2))
  ·exact absurd (clt x c h1) (We.mpr (Wx (oc.empty _ _ h2).2))
  ·exact I.ok.inj x y c (cl x c h1) (cl y c h2)
 ·
  have hx':(XM scope X.env).names.lookup x=p5 .cell\/(XM scope X.env).names.lookup x=p5 .free:=hx;have:(x,WV)∈scope.names\/(x,UW)∈scope.names:=by
   rcases hx' with hx'|hx'
   ·grind[gW,T0]
   grind[gW,T0]
  rcases this with this|this
  ·exact EN this
  ·have hc:=gG hs x this;obtain⟨c,e⟩:=I.ok.has x hc;exact⟨c,(xg λz=>by have z1:=wT hs _ z rfl;have z2:=sq hs x this;nofun).trans (m7 e this)⟩
 ·
  have h1':scope.names.lookup x=p5 .local\/scope.names.lookup x=p5 .cell:=by
   have h1:(scope.names.lookup x==p5 .local||scope.names.lookup x==p5 .cell)=true:=h1;nofun
  rcases ee h2 with h2|h2
  ·exact Wx (oc.empty _ _ h2).2
  ·exfalso;rcases xY _ (T0 h2) with z|z
   ·nofun
   ·rw[sq hs x z] at h1';nofun
 ·obtain⟨o,e⟩:=hO b hb;exact S7 (SH e)
 ·rcases ee e with e|e
  ·obtain⟨o,e'⟩:=hO b hb;exact λz=>absurd (SH e') (We.mpr (z▸Wx (oc.empty _ _ e).2))
  ·exact(hF b hb).2.2.2.2.1 x c (cl x c e)
 ·obtain⟨_,_,_,h4,_⟩:=hF b hb;rcases h4 with h4|h4
  ·exact I.ok.noex b o e h4
  ·exact absurd (SQ (SH e) (Tz I.ok.bsz h4)) (TH _)
 ·have hi:i<X.N.length:=by
   by_cases hi:i<σ.length
   ·rw[<-I.len];exact hi
   ·rw[Ue (by nofun),Uu] at e2;nofun
  rw[TF (by rw[I.len];exact hi)] at e2;have e3':(XM scope X.env).names.lookup x=p5 .local\/(XM scope X.env).names.lookup x=p5 .cell\/(XM scope X.env).names.lookup x=p5 .free:=e3;have hv: ∃k,scope.names.lookup x=p5 k/\(k=.local\/k=.cell\/k=.free):=by
   rcases e3' with z|z|z
   all_goals
    obtain⟨k0,q0,q1|⟨q1,q2⟩⟩:=gW z
    ·nofun
    nofun
  obtain⟨hN,hf⟩:=Cp hn hi e1 hv;have hfm:=T0 hf;have hc:=gG hs x hfm;have nc:(x,WV)∉scope.names:=λz=>by have z1:=wT hs _ z rfl;nofun
  obtain⟨m,hm,hl⟩:=I.loc;obtain⟨u,r,l⟩:=hl i x v hN e2 (.inr hc);refine⟨u,r,.inr ⟨?_,?_⟩⟩
  ·show(XM scope X.env).names.lookup x=p5 .cell\/(XM scope X.env).names.lookup x=p5 .free;grind[gW]
  ·rcases l with⟨l,_⟩|⟨_,c,ec,z⟩
   ·have l':X.env.scope.names.lookup x=p5 .local:=l;nofun
   ·exact⟨c,(xg nc).trans (m7 ec hfm),z.keeps kp⟩
 ·rcases ee e with e|e
  ·exact⟨_,(oc.empty _ _ e).1⟩
  ·obtain⟨v,z⟩:=I.cell x c (cl x c e);exact⟨v,z.keeps kp⟩
 ·rcases ee e with e|e
  ·exact I.hok.fresh (Wx (oc.empty _ _ e).2)
  ·exact I.freeC x c (cl x c e)
 ·show(σ++_).length=N'.length;rw[S5,ZJ,I.len];nofun
end
def Qz(K:SA)(c:Ct)(hid:bC)(f:FA)(ρ:aB):TI:=λσ H R=>SR K c hid ρ σ H/\ ∃ds,f ρ=p5 ds/\ ∀J a,ab H a->pk K (vw a hid) J ds->R J a
def DIp(X:Cx)(c:Ct)(b a:Expr)(f:FA):Prop:= ∀hid ρ,PI X b a (Qz X.K c hid f ρ)
def OO {ι:Type}(IR:Hp->V->ι->Prop)(L W:Hp)(J:It)(ds:List ι):Prop:=
 (∀(i:Nat) (d:ι) (H:Hp),ds[i]? =p5 d->ab L H->ab W H->J.go i H/\ ∀x a,J.yld i H x a->ab H a/\ ∀hid:bC,(∀b,hid b=S1-> ∃o,H b=p5 o)->ab W (vw H hid)->IR (vw a hid) x d)/\ ∀H,ab L H->ab W H->J.stop ds.length H
abbrev N5(K:SA)(L W:Hp)(J:It)(ds:List D):Prop:=OO (Rep K) L W J ds
theorem pk.b {K:SA}(h:pk K W J ds):N5 K L W J ds:=⟨λi d H e _ w=>h.1 i d H e w,λH _ w=>h.2 H w⟩
def RB {ι:Type}(IR:Hp->V->ι->Prop)(K:SA)(c:Ct)(hid:bC)(f:aB->Option (List ι))(ρ:aB):TI:=λσ H R=>SR K c hid ρ σ H/\ ∃ds,f ρ=p5 ds/\ ∀J a,ab H a->OO IR a (vw a hid) J ds->R J a
def RH {ι:Type}(IR:Hp->V->ι->Prop)(X:Cx)(c:Ct)(b a:Expr)(f:aB->Option (List ι)):Prop:= ∀hid ρ,PI X b a (RB IR X.K c hid f ρ)
abbrev LN(X:Cx)(c:Ct)(b a:Expr)(f:FA):Prop:=RH (Rep X.K) X c b a f
section
variable {X:Cx}{c:Ct}{iter:Expr}
theorem DIp.b(h:DIp X c tg iter f):LN X c tg iter f:=λhid ρ=>PI.imp (h hid ρ) λσ H R ⟨a,ds,e,q⟩=>⟨a,ds,e,λJ d s g=>q J d s g.b⟩
theorem DIp.e(h:DIp X c tg iter f):DI X c tg iter (c8 f):=λhid ρ=>PI.imp (h hid ρ) λσ H R a=>by
 obtain⟨b,ds,ρ',e,q⟩:=a;obtain⟨g,rfl⟩:=ph e;exact⟨b,ds,g,λJ d s i=>q J d (.of s) (b.ext s) i⟩
def gu(f:FE):FA:=λρ=>(f ρ).bind λd=>match d with
 | .lst ds=>p5 ds
 |_=>Sr
def yr(f:FE):FA:=λρ=>(f ρ).bind λd=>match d with
 | .tup ds=>p5 ds
 |_=>Sr
theorem sR(h:gu f ρ=p5 ds):f ρ=p5 (.lst ds):=by
 unfold gu at h;cases e:f ρ with
 |none=>nofun
 |some d=>
  grind
theorem CD(h:yr f ρ=p5 ds):f ρ=p5 (.tup ds):=by
 unfold yr at h;cases e:f ρ with
 |none=>nofun
 |some d=>
  grind
theorem Fu {K:SA}(b:SqL K W a xs)(c:Reps K W xs ds):pk K W (QE K a) ds:=by
 refine⟨λi d H e s=>?_,λH s=>⟨_,s.seq b,by rw[c.length];simp⟩⟩;obtain⟨x,f,k⟩:=c.get e;refine⟨⟨_,x,s.seq b,f⟩,λy l ⟨g,h⟩=>?_⟩;subst g;have:=h _ (s.seq b);rw[f] at this;cases this;exact⟨ab.refl _,λhid _ j=>k.mono j⟩
theorem dU(h:DP X c .s iter f):DIp X c tg iter (gu f):=λhid ρ=>PI.imp (Ba (h hid ρ)) λσ H R b=>by
 obtain⟨d,ds,e,q⟩:=b;refine⟨d,_,sR e,λv g s' r=>?_⟩;cases r with
 |lst a i=>have a:=SqL.of (K:=X.K) a;exact⟨_,rfl,⟨_,(bU _ _).seq a⟩,q _ g s' (Fu a i)⟩
theorem xu(h:DP X c .b iter f):LN X c tg iter (gu f):=λhid ρ=>PI.imp (Ba (h hid ρ)) λσ H R j=>by
 obtain⟨o,ds,e,q⟩:=j;refine⟨o,_,sR e,λv k s' r=>?_⟩;obtain⟨a,xs,rfl,g,l⟩:=eb.lst r;refine⟨a,rfl,⟨_,g⟩,q _ k s' ⟨λi d H e s w=>?_,λH s w=>⟨_,s.seq g,by rw[l.length];simp⟩⟩⟩;obtain⟨x,m,u⟩:=l.get e;refine⟨⟨_,x,s.seq g,m⟩,λy k ⟨n,t⟩=>?_⟩;subst n;have:=t _ (s.seq g);rw[m] at this;cases this;exact⟨ab.refl _,λhid _ p=>u.mono p⟩
theorem AZ(h:DP X c .s iter f):DIp X c tg iter (yr f):=λhid ρ=>PI.imp (MN (h hid ρ)) λσ H R a=>by
 obtain⟨d,ds,e,q⟩:=a;refine⟨d,_,CD e,λv g s' r=>?_⟩;cases r with
 |tup b i=>exact⟨_,rfl,⟨_,SqT.of (bU _ _ _ _ b)⟩,q _ g s' (FP (SqT.of b) i)⟩
def cL(f:FA):FA:=λρ=>(f ρ).bind λds=>match ds with
 | [.int j]=>if j.natAbs<4000000000 then p5 (CQ 0 j.toNat) else Sr
 |_=>Sr
theorem bv{p:Pos}(h:X.mg "range"=Sr)(j:DA X c [a] f)(i:Gl X "range":=by rfl)(g:SF [a] X.env=[(Pa,eval a X.env)]:=by rfl):DIp X c tg (.Call (.Name "range" p) [a] [] pos) (cL f):=λhid ρ=>
 PI.imp (DX i h (j hid ρ) g) λσ H R b=>by
  obtain⟨k,ds,e,q⟩:=b;unfold cL at e;cases e1:f ρ with
  |none=>nofun
  |some z=>
   rw[e1] at e;dsimp only[jbZ] at e;split at e
   ·split at e
    ·cases e;refine⟨k,_,e1,λvs d s' r=>?_⟩;cases r with
     |cons r t=>cases t;cases r;exact⟨_,rfl,by grind,by grind,q _ d s' zh⟩
    nofun
   nofun
def kx(b:List Expr)(a:Env):Sem Bool:=forIn b S1 λc r=>if r=S1 then do let ok <-isTrue c a (eval c a);pure (ForInStep.yield ok) else pure (ForInStep.yield r)
def vX(X:Cx)(c:Ct)(a:List Expr)(p:FT):Prop:= ∀hid ρ (b:List (Addr×Obj)) (s:Sx) (σ:St) (H:Hp) (Q:Bool->Hp->Prop),Inv X b σ H s->Ri X.K c hid p ρ σ H Q->SL (model X.prog X.w) X.A (kx a X.env) (TP X b σ Q) X.xe s
def fG:FT:=λ_=>p5 S1
theorem bQ:vX X c [] fG:=λhid ρ f s σ H Q I a=>by
 obtain⟨b,d,e,q⟩:=a;cases e;exact wpAny_tests_nil ⟨H,I,q H (ab.refl _)⟩
theorem kO(h:DT X c e p):vX X c [e] p:=λhid ρ a s σ H Q I q=>wpAny_tests_one (h hid ρ a s σ H Q I q)
end
theorem hJ{k a i:Expr}(I:Nat->Sx->Prop)
 (turn: ∀n s,I n s->SL (model prog w) A (Wa it) (λr b=>match r with
   |none=>R (.ok .next) b
   |some v=>SL (model prog w) A (VB a it v) (λ_ b=>SL (model prog w) A (VY a env v) (λ_ j=>
     SL (model prog w) A (kx ifs env) (λok d=>
      if ok=S1 then SL (model prog w) A (eval k env) (λx g=>
       SL (model prog w) A (call (.builtin "list.append") [acc,x]) (λ_ e=> ∃m,m<n/\I m e) (λ_ _=>False) g) (λ_ _=>False) d
      else∃m,m<n/\I m d) (λ_ _=>False) j) (λ_ _=>False) b) (λ_ _=>False) b) (λ_ _=>False) s)
 (n:Nat) (h:I n s):
 Vy (model prog w) A (.compLoop (.ListComp k [⟨a,i,ifs,0⟩] scope pos) 0 it acc env) R s:=by
 have no: ∀ {q:Sw->Sx->Prop} (x:Sw) (s:Sx),False->q x s:=λ_ _ z=>z.elim
 refine jbd rfl I (λn s t=>?_) n h;show SL _ A ((jbe (.ListComp k [⟨a,i,ifs,0⟩] scope pos) 0 it acc env).onRaise (λx=>do jbE x env;ZC x)) _ _ s;refine jca ?_
 rw[compTurn_list];refine Ss (Vb (Ss (Tv (turn n s t) (λr b c=>?_) no)));cases r with
 |none=>exact Sv c
 |some v=>
  refine Ss (Tv c (λ_ b c=>?_) no);refine Ss (Tv c (λ_ j p=>Ss (Tv p (λok d f=>?_) no)) no);cases ok with
  |false=>exact Sv ⟨rfl,f⟩
  |true=>
   exact Ss (Ss (Tv f (λx g o=>Ss (Tv o (λ_ e l=>Sv (Sv ⟨rfl,l⟩)) no)) no))
def cU {ι:Type}(g:ι->aB->Option aB)(p:FT)(f:FE)(a:aB):List ι->Option (List D)
 | []=>p5 []
 |d::r=>(g d a).bind λρ1=>(p ρ1).bind λb=>if b=S1 then(f ρ1).bind λy=>(cU g p f a r).map (y:: ·) else cU g p f a r
def bT {ι:Type}(m:Nat)(a:aB->Option (List ι))(g:ι->aB->Option aB)(p:FT)(f:FE):FE:=λρ=>(a ρ).bind λds=>if ds.length<=SU then(cU g p f (ρ++SN m .no) ds).map D.lst else Sr
theorem oU {ι:Type}{m:Nat}{a:aB->Option (List ι)}{g:ι->aB->Option aB}{p:FT}{f:FE}{ρ:aB}{d:D}(h:bT m a g p f ρ=p5 d): ∃ds ys,a ρ=p5 ds/\ds.length<=SU/\cU g p f (ρ++SN m .no) ds=p5 ys/\d=.lst ys:=by
 unfold bT at h;cases e1:a ρ with
 |none=>nofun
 |some ds=>
  rw[e1] at h;dsimp only[jbZ] at h;split at h
  ·cases e2:cU g p f (ρ++SN m .no) ds with
   |none=>nofun
   |some ys=>nofun
  nofun
def gZ {ι:Type}(n:Nat)(g:ι->aB->Option aB):Prop:= ∀d (a ρ1:aB),g d a=p5 ρ1->ρ1.length=a.length/\ ∀i:Nat,i<n->ρ1[i]? =a[i]?
def BX(n:Nat)(g:vS):Prop:= ∀d (a ρ1:aB),g d a=p5 ρ1->ρ1.length=a.length/\ ∀i:Nat,i<n->ρ1[i]? =a[i]?
theorem bu {n i:Nat}(h:n<=i):gZ n (gN i):=λd a ρ1 e=>by
 cases e;exact⟨by simp,λj b=>SS ⋯⟩
theorem fE {n:Nat}:BX n m9:=λd a ρ1 e=>by
 unfold m9 at e;lia
theorem bx {n:Nat}(h:gZ n g)(f:BX n gs):BX n (ij g gs):=λd a ρ1 e=>by
 cases d with
 |nil=>cases e
 |cons d ds=>
  have e:(g d a).bind (λρ'=>gs ds ρ')=p5 ρ1:=e;cases e1:g d a with
  |none=>nofun
  |some ρ2=>
   rw[e1] at e;obtain⟨k,l⟩:=h d a ρ2 e1;obtain⟨j,c⟩:=f ds ρ2 ρ1 e;exact⟨j.trans k,λi b=>(c i b).trans (l i b)⟩
theorem mE {n m:Nat}(h:BX n gs):gZ n (gT m gs):=λd a ρ1 e=>by
 unfold gT at e;split at e
 ·split at e
  ·exact h _ _ _ e
  nofun
 nofun
theorem SR.forget {K:SA}{b ρ1:aB}{H:Hp}(h:SR K c hid ρ1 σ H)(l:ρ1.length=b.length)(d: ∀(i:Nat) (s:Sl),b[i]? =p5 s->s=.no\/ρ1[i]? =p5 s):SR K c hid b σ H:=by
 have f: ∀i:Nat,Ow b[i]? ->Ow ρ1[i]? :=λi o=>by
  cases e:b[i]? with
  |none=>rw[e] at o;exact o.elim
  |some s=>
   rcases d i s e with rfl|z
   ·rw[e] at o;exact o.elim
   nofun
 refine⟨h.tr,h.ht,h.h0,h.kp,h.t0,h.c0,h.m0,h.len.trans l,λi s e=>?_,λi j a n g k=>h.ap i j a n (f i g) (f j k)⟩;rcases d i s e with rfl|z
 ·trivial
 ·exact h.sl i s z
theorem SR.more {K:SA}{σ:St}(h:SR K c hid ρ σ H)(m:Nat):SR K c hid (ρ++SN m .no) (σ++SN m Sr) H:=by
 have lt: ∀ {i:Nat},Ow (ρ++SN m Sl.no)[i]? ->i<ρ.length:=λ{i} o=>by
  by_cases k:i<ρ.length
  ·exact k
  ·rw[Ue (by nofun),Uu] at o;split at o<;>exact o.elim
 refine⟨h.tr,h.ht,h.h0,h.kp,h.t0,h.c0,h.m0,by simp[h.len],λi s e=>?_,λi j a n l p t q=>?_⟩
 ·by_cases k:i<ρ.length
  ·rw[TF k] at e;have z:=h.sl i s e;have es:(σ++SN m Sr)[i]? =σ[i]? :=TF (by rw[h.len];exact k);cases s with
   |no=>trivial
   |v d=>obtain⟨x,g,f⟩:=z;exact⟨x,es.trans g,f⟩
   |own ds=>obtain⟨a,xs,g,f⟩:=z;exact⟨a,xs,es.trans g,f⟩
   |arg ds=>obtain⟨a,xs,g,f⟩:=z;exact⟨a,xs,es.trans g,f⟩
   |ob b=>obtain⟨a,g,f⟩:=z;exact⟨a,es.trans g,f⟩
  ·rw[Ue (by nofun),Uu] at e;split at e
   ·cases e;trivial
   nofun
 ·have u:=lt l;have r:=lt p;rw[TF u] at l;rw[TF r] at p;rw[TF (by rw[h.len];exact u)] at t;rw[TF (by rw[h.len];exact r)] at q;exact h.ap i j a n l p t q
section
variable {X:Cx}{c:Ct}{iter:Expr}{scope:Vj}{N':List Str}{ι:Type}{g:ι->aB->Option aB}{p:FT}{f:FE}
theorem SR.write {K:SA}{σ:St}(h:SR K c hid ρ σ H)(l:hid a=S1)(D:c.H₀ a=Sr)(J: ∀i:Nat,Ow ρ[i]? ->σ[i]? ≠p5 (p5 (.ref a)))(G:H a=p5 o)(F: ∀p u,o≠ .nst p u:=by intro _ _ e;cases e)(I: ∀xs,o'≠ .tup xs:=by intro _ e;cases e):SR K c hid ρ σ (aW H a o'):=by
 have k: ∀b o,H b=p5 o-> ∃A,(aW H a o') b=p5 A:=λb o q=>by
  grind[aA,az]
 refine⟨λb n=>let⟨o,q⟩:=h.tr b n;k b o q,λb xs n q=>by
  by_cases e:b=a
  ·grind[aA]
  ·rw[az e] at q;exact h.ht b xs n q,h.h0,λb o q m=>?_,λb o q=>let⟨A,q2⟩:=h.t0 b o q;k b A q2,h.c0,h.m0,h.len,λi s e=>?_,h.ap⟩
 ·rw[az (bF q D)];exact h.kp b o q m
 ·have z:=h.sl i s e;have y: ∀f,Ow ρ[i]? ->σ[i]? =p5 (p5 (.ref f))->f≠a:=λf o q w=>by nofun
  cases s with
  |no=>trivial
  |v d=>obtain⟨x,g,j⟩:=z;exact⟨x,g,by rw[bV l];exact j⟩
  |own ds=>obtain⟨f,xs,g,j,r,B,t⟩:=z;exact⟨f,xs,g,by rw[az (y f (by rw[e];trivial) g)];exact j,r,B,by rw[bV l];exact t⟩
  |arg ds=>obtain⟨f,xs,g,j,r,B,t⟩:=z;exact⟨f,xs,g,by rw[az (y f (by rw[e];trivial) g)];exact j,r,B,by rw[bV l];exact t⟩
  |ob b=>obtain⟨f,g,j⟩:=z;exact⟨f,g,j.mono (λC x E o q=>by rw[az (E.ne (y f (by rw[e];exact C) g) G F)];exact q) (by rw[bV l];exact ab.refl _) λ_ _ _ q=>q⟩
structure CLI(Y:Cx)(K:SA)(c:Ct)(hid:bC)(ρ0:aB)(H W:Hp)(D0:Addr)(fp:List Addr)(tn:Nat->Heap->Prop){ι:Type}(g:ι->aB->Option aB)(p:FT)(f:FE)(ds:List ι)(ys:List D)(n i:Nat)(xs:List V)(ad:List D)(σ':St)(H':Hp)(s':Sx):Prop where
 e:n=ds.length-i
 hi:i<=ds.length
 I:Inv Y [] σ' H' s'
 st:tn i s'.heap
 fr: ∀b∈fp,H' b=Sr
 sr:SR K c hid ρ0 σ' H'
 sm:ab H H'
 ac:H' D0=p5 (.lst xs)
 rp:Reps K (vw H' hid) xs ad
 w:ab W (vw H' hid)
 hl:xs.length<=i
 na: ∀i:Nat,Ow ρ0[i]? ->σ'[i]? ≠p5 (p5 (.ref D0))
 go: ∃rest,cU g p f ρ0 (ds.drop i)=p5 rest/\ad++rest=ys
theorem CV(Q:X.calm=S1)(hT:gZ X.N.length g)
 (hg: ∀C E B ex,Qs IR (aE X N' scope C E B ex) c tg g) (hp: ∀C E B ex,vX (aE X N' scope C E B ex) c ifs p) (he: ∀C E B ex,DP (aE X N' scope C E B ex) c .s elt f) {H t:Hp} {M s4:Sx} {hid:bC} {ρ:aB} {ds:List ι} {W:Hp} (hρ:ρ.length=X.N.length)
 (I:Inv (aE X N' scope C M t fp) [] σ3 t s4) (sr:SR X.K c hid (ρ++SN m .no) σ3 t) (hh:hid D0=S1) (h00:c.H₀ D0=Sr) (na: ∀i:Nat,Ow (ρ++SN m Sl.no)[i]? ->σ3[i]? ≠p5 (p5 (.ref D0))) (hacc:t D0=p5 (.lst [])) (sm:ab H t) (nD:H D0=Sr) (wv:ab W (vw t hid)) (T:ox X.prog X.w X.K tg J fp it tn) (st:tn 0 s4.heap) (hF: ∀b∈fp,t b=Sr)
 (io:OO IR H W J ds) (hz:ds.length<=SU) (hc:cU g p f (ρ++SN m .no) ds=p5 ys)
 (hR: ∀(s':Sx) (h:St) (d:Hp) (xs:List V),Inv (aE X N' scope C M t fp) [] h d s'->ab H d->d D0=p5 (.lst xs)->Reps X.K (vw d hid) xs ys->R (.ok .next) s'):
 Vy (model X.prog X.w) X.A (.compLoop (.ListComp elt [⟨tg,iter,ifs,0⟩] scope pos) 0 (.ref it) (.ref D0) (jbc scope (qw X.env.cells scope C) C X.env)) R s4:=by
 have Y: ∀ {aa:List (Addr×Obj)} {d:Hp},(∀q∈aa,q.1∉fp)->(∀b∈fp,d b=Sr)-> ∀b∈fp,ik (aE X N' scope C M t fp) aa d b:=λ{aa d} hpn hn b Z=>
  ⟨hn b Z,(I.ok.exf b Z).1,I.ok.exfs b Z,.inl Z,(I.ok.exf b Z).2,λq hq e=>hpn q (by have hq':q∈([]:List (Addr×Obj))++aa:=hq;nofun) (by nofun)⟩
 have no: ∀q∈([]:List (Addr×Obj)),q.1∉fp:=λq hq=>nomatch hq
 refine hJ (λn s'=> ∃(i:Nat) (xs:List V) (ad:List D) (h:St) (d:Hp),CLI (aE X N' scope C M t fp) X.K c hid (ρ++SN m .no) H W D0 fp tn g p f ds ys n i xs ad h d s') ?_ ds.length
  ⟨0,[],[],σ3,t,by rfl,Ur _,I,st,hF,sr,sm,hacc,.nil,wv,Ur _,na,ys,by simpa using hc,rfl⟩
 rintro n s5 ⟨i,xs,ad,O,H5,rfl,hi,I5,st5,f5,sr5,S,ac5,rp5,w5,hl5,na5,l,a,hy5⟩;have wH:ab W H5:=w5.trans (bU _ _)
 by_cases hlt:i<ds.length
 ·have hd:ds[i]? =p5 ds[i]:=SJ hlt;have e2:ds.drop i=ds[i]::ds.drop (i+1):=WP hlt;rw[e2] at a;unfold cU at a;obtain⟨go,yl⟩:=io.1 i ds[i] H5 hd S wH;refine bB (T.item (aE X N' scope C M t fp) rfl rfl rfl Q i [] s5 O H5 (λ_ _=>False) I5 (Y no f5) st5 go) λr s6 k=>?_
  obtain⟨u,hr,h6⟩:=k;subst hr;refine bB h6 λ_ s7 k=>?_
  obtain⟨x,H7,I7,r7,y7,st7,f7⟩:=k;obtain⟨U,rp⟩:=yl x H7 y7;have rx:=rp hid sr5.tr w5;have I7':=I7.pinned (Y no f7) (T.obj _ _ st7);cases e3:g ds[i] (ρ++SN m .no) with
  |none=>nofun
  |some ρ1=>
   rw[e3] at a;have a:(p ρ1).bind (λb=>if b=S1 then(f ρ1).bind λy=>(cU g p f (ρ++SN m .no) (ds.drop (i+1))).map (y:: ·) else cU g p f (ρ++SN m .no) (ds.drop (i+1)))=p5 l:=a;obtain⟨tl1,tl2⟩:=hT _ _ _ e3;have fg: ∀ {h:St} {d:Hp},SR X.K c hid ρ1 h d->SR X.K c hid (ρ++SN m .no) h d:=λ{h d} z=>z.forget tl1 λj s e=>by
    grind
   have P: ∀ {h:St} {d:Hp} {s':Sx},Inv (aE X N' scope C M t fp) ([]++mJ fp s7.heap) h d s'->tn (i+1) s'.heap/\ ∀b∈fp,d b=none:=λ{h d s'} J'=>by
    refine⟨T.keep _ _ _ st7 λb Z o e=>(J'.pin (b,o) (Tt _ (Tt _ (eE Z e)))).1,λb Z=>?_⟩;obtain⟨o,e,_⟩:=T.obj _ _ st7 b Z;exact(J'.pin (b,o) (Tt _ (Tt _ (eE Z e)))).2.1
   refine bB (hg C M t fp hid _ ds[i] _ s7 O H7 x u (λh d=>d=H7/\SR X.K c hid ρ1 h H7/\OwK (ρ++SN m .no) ρ1 O h) I7' r7 ⟨sr5.ext U,rx,ρ1,e3,λh z o=>⟨rfl,z,o⟩⟩) λ_ s8 k=>?_
   obtain⟨L,H8,I8,e8,q8,o8⟩:=k;subst e8;have na8: ∀i:Nat,Ow (ρ++SN m Sl.no)[i]? ->L[i]? ≠p5 (p5 (.ref D0)):=λj o=>by
    have o1:Ow ρ1[j]? :=by
     by_cases hj:j<X.N.length
     ·nofun
     ·exfalso;rw[Ue (by nofun),Uu] at o;split at o<;>exact o.elim
    rw[(o8 j o1).2];exact na5 j o
   cases e4:p ρ1 with
   |none=>nofun
   |some b=>
    rw[e4] at a;have a:(if b=S1 then(f ρ1).bind λy=>(cU g p f (ρ++SN m .no) (ds.drop (i+1))).map (y:: ·) else cU g p f (ρ++SN m .no) (ds.drop (i+1)))=p5 l:=a;refine bB (hp C M t fp hid ρ1 _ s8 L H8 (λb' d=>b'=b/\ab H8 d) I8 ⟨q8,b,e4,λd s'=>⟨rfl,s'⟩⟩) λok s9 k=>?_
    obtain⟨H9,I9,e9,F⟩:=k;subst e9;have w9:ab (vw H5 hid) (vw H9 hid):=aC (U.trans F);cases ok with
    |false=>
     have a:cU g p f (ρ++SN m .no) (ds.drop (i+1))=p5 l:=a;obtain⟨k1,k2⟩:=P I9;exact⟨ds.length- (i+1),by grind,i+1,xs,ad,L,H9,rfl,hlt,I9.unpinned,k1,k2,fg (q8.ext F),S.trans (U.trans F),F _ _ (U _ _ ac5),rp5.mono w9,w5.trans w9,⋯,na8,l,a,hy5⟩
    |true=>
     have a:((f ρ1).bind λy=>(cU g p f (ρ++SN m .no) (ds.drop (i+1))).map (y:: ·))=p5 l:=a;cases e5:f ρ1 with
     |none=>nofun
     |some y=>
      rw[e5] at a;have a:(cU g p f (ρ++SN m .no) (ds.drop (i+1))).map (y:: ·)=p5 l:=a;cases e6:cU g p f (ρ++SN m .no) (ds.drop (i+1)) with
      |none=>nofun
      |some rest'=>
       rw[e6] at a;cases a;show SL (model X.prog X.w) X.A (eval elt _) _ _ s9;refine bB (he C M t fp hid ρ1 _ s9 L H9 (λv d=>ab H9 d/\Rep X.K (vw d hid) v y) I9 ⟨q8.ext F,y,e5,λv d s' r=>⟨s',r⟩⟩) λv s10 k=>?_
       obtain⟨z,G,I10,rz,sm10,rp10⟩:=k;have sm':ab H5 G:=U.trans (F.trans sm10);have a10:G D0=p5 (.lst xs):=sm' _ _ ac5;refine bB (dL (X:=aE X N' scope C M t fp) _ s10 L G (.ref D0) [z] (.ref D0) [v] (λ_ d=>d=aW G D0 (.lst (xs++[z]))) I10 rfl (.cons rz .nil) ⟨D0,xs,z,rfl,rfl,a10,by grind,rfl⟩) λ_ s11 ⟨_,H11,I11,_,e11⟩=>?_
       subst e11;obtain⟨k1,k2⟩:=P I11;have vv:vw (aW G D0 (.lst (xs++[z]))) hid=vw G hid:=bV hh;have w10:ab (vw H5 hid) (vw G hid):=aC sm';refine⟨ds.length- (i+1),by grind,i+1,xs++[z],ad++[y],L,_,rfl,hlt,I11.unpinned,k1,k2,?_,λb o e=>?_,aA,?_,?_,by nofun,na8,rest',e6,by nofun⟩
       ·
        have q10:=fg ((q8.ext F).ext sm10);exact q10.write hh h00 na8 a10
       ·rw[az (bF e nD)];exact sm' _ _ (S _ _ e)
       ·rw[vv];exact(rp5.mono w10).append (.cons rp10 .nil)
       ·rw[vv];exact w5.trans w10
 ·have e:i=ds.length:=by lia
  subst e;rw[Xg (SB _)] at a;cases a;rw[Uv] at hy5;subst hy5;refine bB (T.done (aE X N' scope C M t fp) rfl rfl rfl Q ds.length [] s5 O H5 (λ_ _=>False) I5 (Y no f5) st5 (io.2 H5 S wH)) λr s6 k=>?_
  obtain⟨hr,I6⟩:=k;subst hr;exact hR s6 O H5 xs I6 S ac5 rp5
theorem pR(x:X.calm=S1)(hk:scope.kind=.function)(hs:Bb scope X.env.scope=S1)(hn:Bx X.N N' scope=S1)(hm:N'.length-X.N.length=m)(hT:gZ X.N.length g)
 (hg: ∀C h d P,Qs IR (aE X N' scope C h d P) c tg g) (hp: ∀C h d P,vX (aE X N' scope C h d P) c ifs p) (he: ∀C h d P,DP (aE X N' scope C h d P) c .s elt f) {s:Sx} {ds:List ι} {RR:Sw->Addr->Zm->Sx->Prop}
 (I:Inv X aa σ H s) (G:SR X.K c hid ρ σ H) (T:ox X.prog X.w X.K tg J fp it tn) (st:tn 0 s.heap) (hF: ∀b∈fp,ik X aa H b) (io:OO IR H (vw H hid) J ds) (hz:ds.length<=SU) (hc:cU g p f (ρ++SN m .no) ds=p5 ys)
 (hR: ∀(D C:Addr) (s':Sx) (q:Hp) (xs:List V),s.heap.objs.size<=D->s.heap.objs.size<=C->D≠C->H D=Sr->ab H q->q D=p5 (.lst xs)->Reps X.K (vw q (bA hid D)) xs ys->(∃m,s'.heap.Ns C m)->q C=Sr->s'.os=s.os->XH s'.gens->HOk X.prog X.w q s'.heap->Un (frs X.stack) fp H q s.heap s'.heap->RR (.ref D) C (.ok .next) s'):
 SL (model X.prog X.w) X.A (jbf []) (λacc F=>SL (model X.prog X.w) X.A (Yt scope X.env.globals (vT X.env.cells scope.names []) [] X.env.qual Sr .none (p5 X.env)) (λu L=>
  Vy (model X.prog X.w) X.A (.compStart (.ListComp elt [⟨tg,iter,ifs,0⟩] scope pos) 0 (.ref it) acc {u with scope:=XM scope X.env}) (RR acc u.locals) L) E F) E s:=by
 refine T6 (Aj λt a n j=>?_);dsimp only at a n j⊢;generalize y:s.heap.push {cls:=.type "list",dict:=Sr,data:=.seq ([]:List Sw).toArray}=H2 at a n j⊢;have hC:H2.objs.size=s.heap.objs.size+1:=by rw[<-y,UY]
 have l:H s.heap.objs.size=none:=I.hok.fresh (SB _);have I2:Inv X aa σ (aW H s.heap.objs.size (.lst [])) {s with heap:=H2}:=by
  rw[<-y];exact I.laid (t':=s.toks) (λb o e=>Sy _ e) (SB _) ⟨Ur _,[],0,.nil,SC _ rfl⟩
 have M: ∀b∈fp,b<s.heap.objs.size:=λb k=>let⟨o,e,_⟩:=T.obj 0 s.heap st b k;SH e
 have O: ∀b∈fp,ik X aa (aW H s.heap.objs.size (.lst [])) b:=λb k=>⟨by rw[az (S7 (M b k))];exact(hF b k).1,(hF b k).2⟩
 have v: ∀b o,s.heap.get? b=p5 o->H2.get? b=p5 o:=λb o e=>by rw[<-y];exact Sy _ e
 have IY:=wj (tk:=s.toks) (N':=N') (fp:=fp) I2 O (λb k=>let⟨o,e,_⟩:=T.obj 0 s.heap st b k;⟨o,v b o e⟩) hk hs hn a n j;rw[hm] at IY;dsimp only at IY;have Z:SR X.K c (bA hid s.heap.objs.size) (ρ++SN m .no) (σ++SN m Sr) (aW H s.heap.objs.size (.lst [])):=(G.hide (aJ l _) l aA).more m;have ST:ρ.length=X.N.length:=by rw[<-G.len];exact I.len
 have nf:hid s.heap.objs.size=false:=G.fresh l;have B:tn 0 t:=T.keep _ _ _ st λb k o e=>n b o (v b o e)
 have na0: ∀i:Nat,Ow (ρ++SN m Sl.no)[i]? ->(σ++SN m Sr)[i]? ≠p5 (p5 (V.ref s.heap.objs.size)):=(G.more m).notOw nf
 have wv:ab (vw H hid) (vw (aW H s.heap.objs.size (.lst [])) (bA hid s.heap.objs.size)):=by rw[uJ l];exact ab.refl _
 have r: ∀U:Sx,U={s with heap:=t,toks:=s.toks}->
  Vy (model X.prog X.w) X.A (.compLoop (.ListComp elt [⟨tg,iter,ifs,0⟩] scope pos) 0 (.ref it) (.ref s.heap.objs.size) (jbc scope (qw X.env.cells scope H2.objs.size) H2.objs.size X.env)) (RR (.ref s.heap.objs.size) H2.objs.size) U:=by
  rintro U rfl;refine CV (H:=H) (hid:=bA hid s.heap.objs.size) (W:=vw H hid) x hT hg hp he ST IY Z cm (G.fresh0 l) na0 aA (aJ l _) l wv T B (λb k=>(O b k).1) io hz hc ?_
  intro s' σ' q xs z Y R Q;have S:Un (frs X.stack) fp H (aW H s.heap.objs.size (.lst [])) s.heap H2:=Un.laid (λb o e=>v b o e) (SB _) l;refine hR s.heap.objs.size H2.objs.size s' q xs (SB _) (by nofun) (by nofun) l Y R Q (let⟨m,hm,_⟩:=z.loc;⟨m,hm⟩) z.free z.os z.bare z.hok (S.trans z.base)
 exact Zs (r _ rfl) (T.self X.A 0 _ _ _ B (r _ rfl))
theorem eJ(y:X.calm=S1)(hT:gZ X.N.length g)(hi:RH IR X c tg iter gi)
 (hg: ∀C h a M,Qs IR (aE X N' scope C h a M) c tg g) (hp: ∀C h a M,vX (aE X N' scope C h a M) c ifs p) (he: ∀C h a M,DP (aE X N' scope C h a M) c .s elt f)
 (hk:scope.kind=.function:=by rfl) (W:Bb scope X.env.scope=true:=by kernel_rfl) (hn:Bx X.N N' scope=true:=by kernel_rfl) (hm:N'.length-X.N.length=m:=by rfl) (L: ∀x,TY iter X.env x=pure x:=by intro _;rfl):
 DP X c .n (.ListComp elt [⟨tg,iter,ifs,0⟩] scope pos) (bT m gi g p f):=by
 intro hid ρ aa s σ H Q I hq;obtain⟨sr,d,hd,q⟩:=hq;obtain⟨ds,ys,e1,hz,hc,rfl⟩:=oU hd;rw[eval_ListComp];refine VP (use:=Sr) rfl L (dX λx V=>I.ok.has x (gG W x V)) hk (i9 W) ?_
 refine bB (hi hid ρ aa s σ H (λJ j=>ab H j/\OO IR j (vw j hid) J ds) I ⟨sr,ds,e1,λJ j s1 io=>⟨s1,io⟩⟩) λv s1 K=>bB K λitv s2 t=>?_
 obtain⟨it,fp,tn,J,H2,rfl,I2,T,Y,G,U,io⟩:=t;refine pR (RR:=λacc C=>jcY (model X.prog X.w) X.A X.xe Sr (EP X aa σ Q) acc C) y hk W hn hm hT hg hp he I2 (sr.ext U) T Y G io hz hc ?_
 intro D C s' j xs hDge F hDC hD P V rp ⟨mm,R⟩ hC' Z l S i;refine⟨mm,R,λh' k=>⟨.ref D,j,?_,rfl,q _ j (U.trans P) ⟨D,xs,ys,rfl,rfl,U.free hD,V,rp⟩⟩⟩;have r: ∀b o,s2.heap.get? b=p5 o->b≠C:=λb o e z=>by subst z;exact absurd (SH e) (We.mpr F)
 have E:Un (frs X.stack) fp H2 j s2.heap h':=⟨λb o e n K t=>(k.2 b (r b o e)).trans (i.keep b o e n K t),λb o e n K t=>let⟨sl,z⟩:=i.slot b o e n K t;⟨sl,(k.2 b (r b o e)).trans z⟩,i.free,λb o e t=>let⟨o',z⟩:=i.there b o e t;⟨o',(k.2 b (r b o e)).trans z⟩,i.tups,i.frzs,i.tbls⟩
 have B:HOk X.prog X.w j h':=λb o e=>by
  have nb: ∀b' o',j b'=p5 o'->b'≠C:=λb' o' e' z=>by nofun
  refine(S b o e).stay (λc' u hc' z=>(k.2 c' ?_).trans z) (λ_ z=>z) λ_ _ z=>z
  lia
 exact I2.call' (s':={s' with heap:=h'}) (ch:=fp) Z E B l λb O=>⟨(G b O).2.2.2.1,(G b O).2.1,(G b O).2.2.2.2.1,(G b O).2.2.2.2.2⟩
end
section
variable {X:Cx}{iter:Expr}{scope:Vj}{spos:Pos}{N':List Str}
theorem Av(i:Nat)(B:X.calm=S1)(hN:X.N.Nodup)(hT:gZ X.N.length g)(hi:LN X c tg iter gi)
 (hg: ∀C j h O,vR (aE X N' scope C j h O) c tg g) (hp: ∀C j h O,vX (aE X N' scope C j h O) c ifs p) (he: ∀C j h O,DP (aE X N' scope C j h O) c .s elt f)
 (hsw:Uw (.ListComp elt [⟨tg,iter,ifs,0⟩] scope pos) (p5 (.Name y py)) spos.line X.env=pure S1) (W:X.N[i]? =p5 y) (hy:X.env.scope.names.lookup y=p5 .local)
 (hk:scope.kind=.function) (hs:Bb scope X.env.scope=S1) (hn:Bx X.N N' scope=S1) (hm:N'.length-X.N.length=m) (M: ∀x,TY iter X.env x=pure x) (ρ:aB):
 PS X (.Assign [.Name y py] (.ListComp elt [⟨tg,iter,ifs,0⟩] scope pos) spos) (IO (λσ H Q=> ∃hid,Mp X.K c hid .n (bT m gi g p f) ρ σ H Q) (Af i)):=by
 intro P s σ H E I G;obtain⟨hid,sr,d,hd,q⟩:=G;obtain⟨ds,ys,e1,hz,hc,rfl⟩:=oU hd;rw[ZK _ _ _ _ hsw];refine Ss (Vb (Ss ?_));show SL _ X.A (do let _ <-comprehension (.ListComp elt [⟨tg,iter,ifs,0⟩] scope pos) scope X.env _ (jbf []) false (eval iter X.env) (some (VY (.Name y py) X.env))) _ _ s;refine Ss (Tv (VP (use:=p5 (VY (.Name y py) X.env)) (Q:=λ_ s'=>SP X P E .next s') rfl M (dX λx Y=>I.ok.has x (gG hs x Y)) hk (i9 hs) ?_) (λ_ s' G=>Sv (Sv G)) λ_ _ e=>e);refine bB (hi hid ρ P s σ H (λJ l=>ab H l/\N5 X.K l (vw l hid) J ds) I ⟨sr,ds,e1,λJ l s1 io=>⟨s1,io⟩⟩) λv s1 h1=>bB h1 λitv s2 h2=>?_
 obtain⟨it,fp,tn,J,H2,rfl,r,T,st2,L,U,io⟩:=h2;refine pR (IR:=Rep X.K) (RR:=λacc C=>jcY (model X.prog X.w) X.A X.xe (p5 (VY (.Name y py) X.env)) (λ_ s'=>SP X P E .next s') acc C) B hk hs hn hm hT hg hp he r (sr.ext U) T st2 L io hz hc ?_
 intro D C s' l xs hDge k hDC hD sm' Y rp ⟨mm,hns⟩ R hos t S hun;have I3:Inv X P σ l s':=r.call' (ch:=fp) hos hun S t λb F=>⟨(L b F).2.2.2.1,(L b F).2.1,(L b F).2.2.2.2.1,(L b F).2.2.2.2.2⟩
 have fin:=q _ l (U.trans sm') ⟨D,xs,ys,rfl,rfl,U.free hD,Y,rp⟩;have u: ∀b o,s2.heap.get? b=p5 o->b≠C:=λb o e z=>by subst z;exact absurd (SH e) (We.mpr k)
 have hLC:C≠X.env.locals:=λz=>by
  have:=r.lt;rw[<-z] at this;exact absurd this (We.mpr k)
 show SL _ X.A (VY (.Name y py) X.env (.ref D)) _ _ s';refine YF (mH (v:=.ref D) I3 hN W (.inl hy) rfl (λV I4 F=>?_) (.inr hy));obtain⟨a,hsb,ha⟩:=F;have Z:C≠a:=by
  rcases ha with rfl|ha
  ·omega
  ·obtain⟨w',o,ho,_⟩:=r.cell y a ha;exact λz=>u a o ho z.symm
 refine⟨mm,hns.sameBut hsb Z,λh3 hs3=>⟨_,l,?_,fin⟩⟩;refine I4.turned (t':=V.toks) (it:=C) (λb o nb e=>(hs3.2 b nb).trans e) R hLC (.inr (Tz r.sz k)) (λx c' e z=>?_) (λq G z=>?_)
 ·obtain⟨w',o,ho,_⟩:=r.cell x c' e;exact u c' o ho z
 ·exact u q.1 q.2 (r.pin q G).1 z
theorem K9(i:Nat)(d:X.calm=S1)(I:X.N.Nodup)(t:gZ X.N.length g)(E:LN X c tg iter gi)
 (F: ∀C b a h,vR (aE X N' scope C b a h) c tg g) (u: ∀C b a h,vX (aE X N' scope C b a h) c ifs p) (K: ∀C b a h,DP (aE X N' scope C b a h) c .s elt f)
 (j:Uw (.ListComp elt [⟨tg,iter,ifs,0⟩] scope pos) (p5 (.Name y py)) spos.line X.env=pure true:=by rfl) (n:X.N[i]? =p5 y:=by rfl) (G:X.env.scope.names.lookup y=p5 .local:=by rfl)
 (J:scope.kind=.function:=by rfl) (w:Bb scope X.env.scope=true:=by kernel_rfl) (B:Bx X.N N' scope=true:=by kernel_rfl) (A:N'.length-X.N.length=m:=by rfl) (e: ∀x,TY iter X.env x=pure x:=by intro _;rfl):
 DS X c k (.Assign [.Name y py] (.ListComp elt [⟨tg,iter,ifs,0⟩] scope pos) spos) (dh i (bT m gi g p f)):=λρ=>PS.imp (Av i d I t E F u K j n G J w B A e ρ) λD σ H l=>by
 obtain⟨hid,o,q⟩:=l;unfold dh at q;cases e1:bT m gi g p f ρ with
 |none=>rw[e1] at q;exact q.elim
 |some z=>
  rw[e1] at q;exact⟨hid,o,z,e1,λv L s r=>JD (o.post s r ()) q⟩
theorem Aa(i:Nat)(e:X.calm=S1)(B:X.N.Nodup)(L:gZ X.N.length g)(K:LN X c tg iter gi)
 (A: ∀C d b j,vR (aE X N' scope C d b j) c tg g) (G: ∀C d b j,vX (aE X N' scope C d b j) c ifs p) (O: ∀C d b j,DP (aE X N' scope C d b j) c .s elt f)
 (t:Uw (.ListComp elt [⟨tg,iter,ifs,0⟩] scope pos) (p5 (.Name y py)) spos.line X.env=pure true:=by rfl) (o:X.N[i]? =p5 y:=by rfl) (F:X.env.scope.names.lookup y=p5 .local:=by rfl)
 (E:scope.kind=.function:=by rfl) (I:Bb scope X.env.scope=true:=by kernel_rfl) (J:Bx X.N N' scope=true:=by kernel_rfl) (M:N'.length-X.N.length=m:=by rfl) (h: ∀x,TY iter X.env x=pure x:=by intro _;rfl):
 DS X c k (.Assign [.Name y py] (.ListComp elt [⟨tg,iter,ifs,0⟩] scope pos) spos) (br i (bT m gi g p f)):=λρ=>PS.imp (Av i e B L K A G O t o F E I J M h ρ) λD σ H u=>by
 obtain⟨hid,l,q⟩:=u;unfold br at q;cases e1:bT m gi g p f ρ with
 |none=>rw[e1] at q;exact q.elim
 |some z=>
  rw[e1] at q;exact⟨hid,l,z,e1,λv w s r=>q _ w hid ((l.ext s).setV (RN.rep r λa n=>l.fresh n) i) (aC s)⟩
end
mutual
def ig:D->D->Bool
 | .int a=>λy=>match y with
   | .int b=>a==b
   |_=>Pa
 | .tup a=>λy=>match y with
   | .tup b=>jk a b
   |_=>Pa
 | .lst a=>λy=>match y with
   | .lst b=>jk a b
   |_=>Pa
 |_=>λ_=>Pa
def jk:List D->List D->Bool
 | [],[]=>S1
 |x::xs,y::ys=>ig x y&&jk xs ys
 |_,_=>Pa
end
mutual
def d7:D->Nat
 | .int _=>0
 | .tup a=>bM a+1
 | .lst a=>bM a+1
 |_=>Tq
def bM:List D->Nat
 | []=>0
 |x::xs=>max (d7 x) (bM xs)
end
theorem pQ: ∀ {xs:List D} {i:Nat} {d:D},xs[i]? =p5 d->d7 d<=bM xs
 | [],_,_,h=>by simp at h
 |x::xs,0,d,h=>by grind[bM]
 |x::xs,i+1,d,h=>by
  have:=pQ (xs:=xs) (i:=i) (d:=d) (by simpa using h);grind[bM]
mutual
theorem lh: ∀x:D,d7 x<Tq->ig x x=S1
 | .int a,_=>by simp[ig]
 | .tup a,h=>mF a (VJ h)
 | .lst a,h=>mF a (VJ h)
 | .non,h=>absurd h (TH _)
 | .bl _,h=>absurd h (TH _)
 | .str _,h=>absurd h (TH _)
 | .scr _,h=>absurd h (TH _)
 | .dct _ _,h=>absurd h (TH _)
theorem mF: ∀x:List D,bM x<Tq->jk x x=S1
 | [],_=>by rfl
 |x::xs,h=>by unfold jk;rw[lh x (SZ (W0 _ _) h),mF xs (SZ (WI _ _) h)];rfl
end
def qr(xs ys:List D)(j:Nat):Bool:=match xs[j]?,ys[j]? with
 |some x,some y=>ig x y
 |_,_=>Pa
theorem tj {xs ys:List D}(h:xs.length=ys.length):(Su xs.length).all (qr xs ys)=jk xs ys:=by
 induction xs generalizing ys with
 |nil=>
  grind[jk]
 |cons x xs a=>
  cases ys with
  |nil=>nofun
  |cons y ys=>
   rw[SX,Vq,YV,jfc];grind[qr,jk]
theorem oN: ∀ {xs ys:List D},xs.length≠ys.length->jk xs ys=Pa
 | [],[],h=>absurd rfl h
 | [],_::_,_=>by rfl
 |_::_,[],_=>by rfl
 |x::xs,y::ys,h=>by unfold jk;rw[oN (xs:=xs) (ys:=ys) (by nofun)];simp
section
variable {X:Cx}{H:Hp}{s:Sx}
theorem Jb(I:Inv X aa σ H s){o:Obj}(h:H a=p5 (.frz o (.dT kvs))): ∃o,s.heap.get? a=p5 o/\o.cls=.type "dict":=by
 obtain⟨_,_,xs,_,o,es,ep,c,b,_⟩:=(show _/\ci X.prog X.w H s.heap a (.dT kvs) from I.hok a _ h).2;exact⟨o,c,b.1⟩
mutual
theorem Rep.eqv(I:Inv X aa σ H s): ∀ {v:V} {x y:D},Rep X.K H v x->Rep X.K H v y->d7 x<Tq->d7 y<Tq->x=y
 |_,_,_,.int,q,_,_=>by cases q;rfl
 |_,_,_,.tup h r,q,a,b=>by
  cases q with
  |tup h' c=>rw[I.tuple_inj (SqT.of h) (SqT.of h')] at r;exact congrArg D.tup (Reps.eqv I r c (VJ a) (VJ b))
  |lst h'=>nofun
  |_=>exact absurd b (TH _)
 |_,_,_,.lst h r,q,a,b=>by
  cases q with
  |lst h' c=>rw[I.list_inj (SqL.of h) (SqL.of h')] at r;exact congrArg D.lst (Reps.eqv I r c (VJ a) (VJ b))
  |tup h'=>nofun
  |_=>exact absurd b (TH _)
 |_,_,_,.non,_,a,_=>absurd a (TH _)
 |_,_,_,.bl,_,a,_=>absurd a (TH _)
 |_,_,_,.str,_,a,_=>absurd a (TH _)
 |_,_,_,.scr _ _,_,a,_=>absurd a (TH _)
 |_,_,_,.dct _ _ _,_,a,_=>absurd a (TH _)
theorem Reps.eqv(I:Inv X aa σ H s): ∀ {v:List V} {x y:List D},Reps X.K H v x->Reps X.K H v y->bM x<Tq->bM y<Tq->x=y
 |_,_,_,.nil,.nil,_,_=>rfl
 |_,_,_,.cons r t,.cons c t',a,b=>by
  rw[Rep.eqv I r c (SZ (W0 _ _) a) (SZ (W0 _ _) b),Reps.eqv I t t' (SZ (WI _ _) a) (SZ (WI _ _) b)]
end
theorem lO(I:Inv X aa σ H s){ds:List D}(h:SqL X.K H a xs)(r:Reps X.K H xs ds): ∃b:List Sw,s.heap.IsList a b.toArray/\b.length=ds.length/\ ∀(j:Nat) (f:j<b.length),∃(v:V) (d:D),ds[j]? =p5 d/\b6 v b[j]/\Rep X.K H v d:=by
 obtain⟨b,c,pl,_⟩:=I.list h;have k:=c.length;have g:=r.length;refine⟨b,pl.isList,by nofun,λj f=>?_⟩;have e:xs[j]? =p5 xs[j]:=SJ (by nofun);obtain⟨u,i,n⟩:=c.get e;obtain⟨d,l,m⟩:=r.get' e;grind
theorem oZ(I:Inv X aa σ H s){ds:List D}(h:SqT X.K H a xs)(r:Reps X.K H xs ds): ∃b:List Sw,s.heap.IsTuple a b.toArray/\b.length=ds.length/\ ∀(j:Nat) (f:j<b.length),∃(v:V) (d:D),ds[j]? =p5 d/\b6 v b[j]/\Rep X.K H v d:=by
 obtain⟨b,c,pl,_⟩:=I.tuple h;have k:=c.length;have g:=r.length;refine⟨b,pl,by nofun,λj f=>?_⟩;have e:xs[j]? =p5 xs[j]:=SJ ⋯;obtain⟨u,i,n⟩:=c.get e;obtain⟨d,l,m⟩:=r.get' e;grind
end
section
variable {X:Cx}
theorem Ls {A:Tr}{n:Nat}(z: ∀ {x y:D} {v u:V} {a b:Sw} {A:Tr},d7 x<n->A.units+d7 x<Tq->A.units+d7 y<Tq->b6 v a->b6 u b->Rep X.K H v x->Rep X.K H u y->VQ A s a b (ig x y)){e c:List Sw}(C:bM xs<n)(E:A.units+bM xs<Tq)(hv:A.units+bM ys<Tq)
 (q: ∀(j:Nat) (o:j<e.length),∃(v:V) (d:D),xs[j]? =p5 d/\b6 v e[j]/\Rep X.K H v d) (k: ∀(j:Nat) (o:j<c.length),∃(v:V) (d:D),ys[j]? =p5 d/\b6 v c[j]/\Rep X.K H v d):
 ∀j (i:j<e.toArray.size) (f:j<c.toArray.size),VQ A s e.toArray[j] c.toArray[j] (qr xs ys j):=λj i f=>by
 obtain⟨v,d,g,r,B⟩:=q j (by omega);obtain⟨u,d',l,t,w⟩:=k j (by omega);have h:qr xs ys j=ig d d':=by grind[qr]
 rw[h];have p:=pQ g;have m:=pQ l;grind
theorem Kb(I:Inv X aa σ H s){A:Tr}{n:Nat}(l: ∀ {x y:D} {v u:V} {a b:Sw} {A:Tr},d7 x<n->A.units+d7 x<Tq->A.units+d7 y<Tq->b6 v a->b6 u b->Rep X.K H v x->Rep X.K H u y->VQ A s a b (ig x y)){zs f:List V}(m:bM xs<n)(w:A.units+(bM xs+1)<Tq)(hv:A.units+(bM ys+1)<Tq)
 (i:SqL X.K H a zs) (h:Reps X.K H zs xs) (g:SqL X.K H b f) (j:Reps X.K H f ys):Zt A s (.ref a) (.ref b) (jk xs ys)/\Zu A s (.ref a) (.ref b) (!jk xs ys):=by
 obtain⟨c,r,p,o⟩:=lO I i h;obtain⟨d,q,z,k⟩:=lO I g j
 by_cases e:xs.length=ys.length
 ·have hsz:c.toArray.size=d.toArray.size:=by nofun
  have B:=Ls (A:=A.in1) l m ⋯ ⋯ o k;have t:(Su c.toArray.size).all (qr xs ys)=jk xs ys:=by grind[tj]
  grind[SeqAt.RcAt.lists,jhJ]
 grind[oN,SeqAt.RcAt.lists_lengths,jcZ]
theorem M7(I:Inv X aa σ H s){A:Tr}{n:Nat}(o: ∀ {x y:D} {v u:V} {a b:Sw} {A:Tr},d7 x<n->A.units+d7 x<Tq->A.units+d7 y<Tq->b6 v a->b6 u b->Rep X.K H v x->Rep X.K H u y->VQ A s a b (ig x y)){zs h:List V}(p:bM xs<n)(w:A.units+(bM xs+1)<Tq)(hv:A.units+(bM ys+1)<Tq)
 (k:H a=p5 (.tup zs)) (j:Reps X.K H zs xs) (i:H b=p5 (.tup h)) (l:Reps X.K H h ys):Zt A s (.ref a) (.ref b) (jk xs ys)/\Zu A s (.ref a) (.ref b) (!jk xs ys):=by
 obtain⟨d,f,t,r⟩:=oZ I (SqT.of k) j;obtain⟨c,e,z,m⟩:=oZ I (SqT.of i) l;have g:=Ls (A:=A.in1) o p ⋯ ⋯ r m;have q:((Su (min d.toArray.size c.toArray.size)).all (qr xs ys)&&d.toArray.size==c.toArray.size)=jk xs ys:=by
  grind[tj,oN]
 rw[<-q];exact⟨SeqAt.RcAt.tuples f e ⋯ g,jgP f e ⋯ g⟩
theorem zR(e:(∃i t,a=.int i t)\/ ∃p,a=.ref p)(f:(a==b)=Pa)(h:Zt A s a b k):VQ A s a b k:=λprog w E Q d=>by
 unfold eqBool;rcases e with⟨_,_,rfl⟩|⟨_,rfl⟩<;>refine TM (Wk (λc=>absurd c (by nofun)) λ_=>Ss (h prog w E _ (UD d)))
theorem Pi(I:Inv X aa σ H s){n:Nat}(t: ∀ {x y:D} {v u:V} {a b:Sw} {A:Tr},d7 x<n->A.units+d7 x<Tq->A.units+d7 y<Tq->b6 v a->b6 u b->Rep X.K H v x->Rep X.K H u y->VQ A s a b (ig x y)){A:Tr}(r:d7 x<n+1)(m:A.units+d7 x<Tq)(hv:A.units+d7 y<Tq)
 (o:b6 v a) (g:b6 u b) (w:Rep X.K H v x) (p:Rep X.K H u y):Zt A s a b (ig x y)/\Zu A s a b (!ig x y):=by
 have c:A.units<cLine:=SZ (Xy _ _) m;have no {k:Nat} (h:k+Tq<Tq):False:=absurd (SZ (Wm _ _) h) (TH _);cases w with
 |int=>
  obtain⟨z,rfl⟩:=o;cases p with
  |int=>
   obtain⟨q,rfl⟩:=g;exact⟨.int_int _ _ _ _,.int_int _ _ _ _⟩
  |tup d e=>
   cases g;obtain⟨_,f,_⟩:=oZ I (SqT.of d) e;exact⟨.int_tuple _ _ f c,.int_tuple _ _ f c⟩
  |lst d e=>
   cases g;obtain⟨_,f,_⟩:=lO I (SqL.of d) e;exact⟨.int_list _ _ f c,.int_list _ _ f c⟩
  |_=>exact(no hv).elim
 |tup l j=>
  cases o;obtain⟨_,i,_⟩:=oZ I (SqT.of l) j;cases p with
  |int=>
   obtain⟨q,rfl⟩:=g;exact⟨.tuple_int _ _ i c,.tuple_int _ _ i c⟩
  |tup d e=>
   cases g;exact M7 I t (Wf r) m hv l j d e
  |lst d e=>
   cases g;obtain⟨_,f,_⟩:=lO I (SqL.of d) e;exact⟨.tuple_list i f c,.tuple_list i f c⟩
  |_=>exact(no hv).elim
 |lst l j=>
  cases o;obtain⟨_,i,_⟩:=lO I (SqL.of l) j;cases p with
  |int=>
   obtain⟨q,rfl⟩:=g;exact⟨.list_int _ _ i c,.list_int _ _ i c⟩
  |tup d e=>
   cases g;obtain⟨_,f,_⟩:=oZ I (SqT.of d) e;exact⟨.list_tuple i f c,.list_tuple i f c⟩
  |lst d e=>
   cases g;exact Kb I t (Wf r) m hv (SqL.of l) j (SqL.of d) e
  |_=>exact(no hv).elim
 |_=>exact(no m).elim
theorem yS(I:Inv X aa σ H s): ∀(n:Nat) {x y:D} {v u:V} {a b:Sw} {A:Tr},d7 x<n->A.units+d7 x<Tq->A.units+d7 y<Tq->b6 v a->b6 u b->Rep X.K H v x->Rep X.K H u y->VQ A s a b (ig x y)
 |0,_,_,_,_,_,_,_,f,_,_,_,_,_,_=>absurd f (WY _)
 |n+1,_,_,_,_,a,b,_,f,g,hv,c,h,d,i=>by
  cases e:a==b with
  |true=>
   cases eq_of_beq e;cases c.inj h;rw[Rep.eqv I d i (SZ (Wm _ _) g) (SZ (Wm _ _) hv),lh _ (SZ (Wm _ _) hv)];exact SeqAt.EqAt.same _
  |false=>
   refine zR ?_ e (Pi I (yS I n) f g hv c h d i).1;cases d with
   |int=>obtain⟨_,rfl⟩:=c;exact .inl ⟨_,_,rfl⟩
   |tup=>cases c;exact .inr ⟨_,rfl⟩
   |lst=>cases c;exact .inr ⟨_,rfl⟩
   |_=>exact absurd (SZ (Wm _ _) g) (TH _)
theorem OS(I:Inv X aa σ H s){A:Tr}(g:A.units+d7 x<Tq)(hv:A.units+d7 y<Tq)(f:b6 v a)(c:b6 u b)(e:Rep X.K H v x)(d:Rep X.K H u y):Zt A s a b (ig x y)/\Zu A s a b (!ig x y):=
 Pi I (yS I (d7 x)) (WH _) g hv f c e d
end
theorem eb.full {K:SA}(h:eb K H (vw H hid) v d):Rep K H v d:=by
 rcases h with h|⟨a,xs,ds,rfl,rfl,c,b⟩
 ·exact h.mono (bU _ _)
 ·exact .lst c (b.mono (bU _ _))
def Pf(K:SA):R2:=λv u H Q=> ∃x y,Rep K H v x/\Rep K H u y/\d7 x<=32/\d7 y<=32/\Q (.bl (ig x y)) H
def O2(K:SA):R2:=λv u H Q=> ∃x y,Rep K H v x/\Rep K H u y/\d7 x<=32/\d7 y<=32/\Q (.bl (!ig x y)) H
theorem mG {X:Cx}(j:X.A.units+64<Tq):kZ X (U0 .Eq) (Pf X.K):=by
 intro e s σ H x y v u Q I b d h;obtain⟨g,i,c,a,f,k,q⟩:=h;exact(OS I ⋯ ⋯ b d c a).1 X.prog X.w _ _ ⟨.bl _,H,I,rfl,q⟩
theorem j4 {X:Cx}(j:X.A.units+64<Tq):kZ X (U0 .NotEq) (O2 X.K):=by
 intro e s σ H x y v u Q I b d h;obtain⟨g,i,c,a,f,k,q⟩:=h;exact(OS I ⋯ ⋯ b d c a).2 X.prog X.w _ _ ⟨.bl _,H,I,rfl,q⟩
def vL:D->D->Option D:=λx y=>if d7 x<=32/\d7 y<=32 then p5 (.bl (ig x y)) else Sr
def uD:D->D->Option D:=λx y=>if d7 x<=32/\d7 y<=32 then p5 (.bl (!ig x y)) else Sr
theorem sF {K:SA}:rH K .s (Pf K) vL:=by
 intro H hid v u x y d Q c h b a q;unfold vL at h;split at h
 ·cases h;exact⟨x,y,b.full,a.full,(‹_/\_› :_/\_).1,(‹_/\_› :_/\_).2,q _ H (ab.refl _) .bl⟩
 nofun
theorem pN {K:SA}:rH K .s (O2 K) uD:=by
 intro H hid v u x y d Q c h b a q;unfold uD at h;split at h
 ·cases h;exact⟨x,y,b.full,a.full,(‹_/\_› :_/\_).1,(‹_/\_› :_/\_).2,q _ H (ab.refl _) .bl⟩
 lia
theorem Fk {X:Cx}(I:Inv X aa σ H s){A:Tr}(J:Rep X.K H v x)(E:b6 v a): ∀ {ds:List D} {xs:List V} {g:List Sw},Reps X.K H xs ds->cc xs g->A.units+bM ds<Tq->A.units+d7 x<Tq->
 ∃e:Sw->Bool,(∀y,y∈g->VQ A s y a (e y))/\ ∀(j:Nat) (z:j<g.length) (d:D),ds[j]? =p5 d->e g[j]=ig d x:=by
 intro ds xs g r L n hv
 classical
 have m: ∀y u d,b6 u y->Rep X.K H u d->d7 d<Tq->decide (∃d u,b6 u y/\Rep X.K H u d/\d7 d<Tq/\ig d x=S1)=ig d x:=λy u d q o w=>by
  cases e:ig d x with
  |true=>exact v3 ⟨d,u,q,o,w,e⟩
  |false=>
   refine v7 λh=>?_
   obtain⟨d',u',a,b,c,f⟩:=h;cases a.inj q;rw[Rep.eqv I b o c w,e] at f;nofun
 refine⟨λy=>decide (∃d u,b6 u y/\Rep X.K H u d/\d7 d<Tq/\ig d x=S1),?_⟩
 induction L generalizing ds with
 |nil=>simp
 |cons p t F=>
  cases r with
  |cons C M=>
   rename_i d ds;have B:d7 d<=bM (d::ds):=W0 _ _
   have i:bM ds<=bM (d::ds):=WI _ _;have k:=m _ _ _ p C (SZ (Tz B (Wm _ _)) n);obtain⟨G,i2⟩:=F M (SZ (Vl i _) n);refine⟨λy l=>?_,λj z d' e=>?_⟩
   ·rcases S6.mp l with rfl|l
    ·show VQ A s _ a (Oo _);rw[k];exact yS I (d7 d+1) (WH _) (SZ (Vl B _) n) hv p E C J
    ·exact G y l
   ·cases j with
    |zero=>nofun
    |succ j=>exact i2 j (Wf z) d' e
theorem oq {X:Cx}(I:Inv X aa σ H s){A:Tr}(k:Rep X.K H v x)(i:b6 v a){ds:List D}{c:List Sw}(r:Reps X.K H xs ds)(f:cc xs c)(n:A.units+bM ds<Tq)(hv:A.units+d7 x<Tq):
 ∃e:Sw->Bool,(∀y,y∈c->VQ A s y a (e y))/\c.any e=ds.any (λd=>ig d x):=by
 obtain⟨e,h,g⟩:=Fk I k i r f n hv;refine⟨e,h,?_⟩;have j:c.map e=ds.map λd=>ig d x:=U8 (by rw[SO,SO,<-f.length,r.length]) λm a b=>by
  rw[jbF,jbF];exact g m (by nofun) _ (SJ (by nofun))
 have:=congrArg (λl=>List.any l id) j;rwa [VL,VL] at this
def Nw(K:SA)(b:Bool):R2:=λv u H Q=> ∃x ds a xs,Rep K H v x/\u=.ref a/\(SqL K H a xs\/SqT K H a xs)/\Reps K H xs ds/\bM (x::ds)<=32/\Q (.bl (if b then !ds.any (λd=>ig d x) else ds.any λd=>ig d x)) H
theorem yQ {X:Cx}(t:X.A.units+64<Tq):kZ X (U0 .In) (Nw X.K Pa):=by
 intro n s σ H v w a b Q I j l h;obtain⟨x,ds,p,xs,i,rfl,c,r,o,q⟩:=h;cases l;rcases c with c|c
 ·obtain⟨f,g,pl,hz⟩:=I.list c;obtain⟨e,d,k⟩:=oq (A:=X.A.in1) I i j r g (by grind[bM]) (by grind[bM]);refine SeqAt.in_listAt e pl.isList (λy m=>d y (by nofun)) ⟨.bl _,H,I,rfl,?_⟩;nofun
 ·obtain⟨f,g,pl,hz⟩:=I.tuple c;obtain⟨e,d,k⟩:=oq (A:=X.A.in1) I i j r g (by grind[bM]) (by grind[bM]);refine SeqAt.in_tupleAt e pl (λy m=>d y (by nofun)) ⟨.bl _,H,I,rfl,?_⟩;nofun
theorem rV {X:Cx}(t:X.A.units+64<Tq):kZ X (U0 .NotIn) (Nw X.K S1):=by
 intro n s σ H v w a b Q I j l h;obtain⟨x,ds,p,xs,i,rfl,c,r,o,q⟩:=h;cases l;rcases c with c|c
 ·obtain⟨f,g,pl,hz⟩:=I.list c;obtain⟨e,d,k⟩:=oq (A:=X.A.in1) I i j r g (by grind[bM]) (by grind[bM]);refine SeqAt.notIn_listAt e pl.isList (λy m=>d y (by nofun)) ⟨.bl _,H,I,rfl,?_⟩;nofun
 ·obtain⟨f,g,pl,hz⟩:=I.tuple c;obtain⟨e,d,k⟩:=oq (A:=X.A.in1) I i j r g (by grind[bM]) (by grind[bM]);refine SeqAt.notIn_tupleAt e pl (λy m=>d y (by nofun)) ⟨.bl _,H,I,rfl,?_⟩;nofun
def tU:D->Option (List D)
 | .lst ds=>p5 ds
 | .tup ds=>p5 ds
 |_=>Sr
def rC(a:Bool):D->D->Option D:=λx y=>match tU y with
 |some ds=>if bM (x::ds)<=32 then p5 (.bl (if a then !ds.any (λd=>ig d x) else ds.any λd=>ig d x)) else Sr
 |none=>Sr
theorem xT {K:SA}(b:Bool):rH K .s (Nw K b) (rC b):=by
 intro H hid v u x y d Q j h i g q;unfold rC at h;split at h
 ·split at h
  ·rename_i ds e _
   cases h;cases y with
   |lst zs=>
    cases e;obtain⟨a,xs,rfl,f,c⟩:=g.lst;exact⟨x,_,a,xs,i.full,rfl,.inl f,c.mono (bU _ _), ‹_›,q _ H (ab.refl _) .bl⟩
   |tup zs=>
    cases e;obtain⟨a,xs,rfl,_,f,c⟩:=g.tup;exact⟨x,_,a,xs,i.full,rfl,.inr f,c.mono (bU _ _), ‹_›,q _ H (ab.refl _) .bl⟩
   |_=>cases e
  lia
 nofun
def Rw(T:String):D->Bool
 | .non=>T=="NoneType"
 | .bl _=>T=="bool"||T=="int"
 | .int _=>T=="int"
 | .str _=>T=="str"
 | .tup _=>T=="tuple"
 | .lst _=>T=="list"
 | .scr _=>T=="list"
 | .dct _ _=>T=="dict"
structure KT(T:String):Prop where
 n: ∀K,Y8 K (.type "NoneType") (.type T)=p5 (T=="NoneType")
 b: ∀K,Y8 K (.type "bool") (.type T)=p5 (T=="bool"||T=="int")
 i: ∀K,Y8 K (.type "int") (.type T)=p5 (T=="int")
 s: ∀K,Y8 K (.type "str") (.type T)=p5 (T=="str")
 t: ∀K,Y8 K (.type "tuple") (.type T)=p5 (T=="tuple")
 l: ∀K,Y8 K (.type "list") (.type T)=p5 (T=="list")
 d: ∀K,Y8 K (.type "dict") (.type T)=p5 (T=="dict")
theorem Nl:KT "int":=⟨λ_=>by rfl,λ_=>by rfl,λ_=>by rfl,λ_=>by rfl,λ_=>by rfl,λ_=>by rfl,λ_=>by rfl⟩
theorem Jr:KT "bool":=⟨λ_=>by rfl,λ_=>by rfl,λ_=>by rfl,λ_=>by rfl,λ_=>by rfl,λ_=>by rfl,λ_=>by rfl⟩
theorem KY:KT "list":=⟨λ_=>by rfl,λ_=>by rfl,λ_=>by rfl,λ_=>by rfl,λ_=>by rfl,λ_=>by rfl,λ_=>by rfl⟩
theorem GO:KT "tuple":=⟨λ_=>by rfl,λ_=>by rfl,λ_=>by rfl,λ_=>by rfl,λ_=>by rfl,λ_=>by rfl,λ_=>by rfl⟩
section
variable {X:Cx}{f:FE}{p:Pos}
theorem EL(a:KT T):cO X (.builtin "isinstance") (λxs H Q=> ∃v d,xs=[v,.ty T]/\Rep X.K H v d/\Q (.bl (Rw T d)) H):=by
 intro m s σ H xs us Q I r h;obtain⟨v,d,rfl,o,q⟩:=h;obtain⟨u,x,rfl,c,p⟩:=Lw r;cases p;have fin: ∀tk,EP X m σ Q (.bool (Rw T d)) {s with toks:=tk}:=λtk=>⟨.bl _,H,I.tok _,rfl,q⟩
 cases o with
 |non=>cases c;exact XB W.kitx_none I.kIn True.intro (a.n _) (λz=>nomatch z) fin
 |bl=>cases c;exact XB W.kitx_bool I.kIn True.intro (a.b _) (λz=>nomatch z) fin
 |int=>obtain⟨t,rfl⟩:=c;exact XB W.kitx_int I.kIn True.intro (a.i _) (λz=>nomatch z) fin
 |str=>obtain⟨t,rfl⟩:=c;exact XB W.kitx_str I.kIn True.intro (a.s _) (λz=>nomatch z) fin
 |tup e j=>
  cases c;obtain⟨⟨ob,g,f⟩,_⟩:=I.tupleN (SqT.of e);exact XB W.kitx_tuple I.kIn ⟨ob,g,f⟩ (a.t _) (λz=>nomatch z) fin
 |lst e j=>
  cases c;obtain⟨k,_,⟨ob,n,g,f,_⟩,_⟩:=I.list (SqL.of e);exact XB W.kitx_list I.kIn ⟨ob,g,f⟩ (a.l _) (λz=>nomatch z) fin
 |scr e j=>
  cases c;obtain⟨k,_,⟨ob,n,g,f,_⟩,_⟩:=I.list e.seq;exact XB W.kitx_list I.kIn ⟨ob,g,f⟩ (a.l _) (λz=>nomatch z) fin
 |dct e j w=>
  cases c;obtain⟨ob,g,f⟩:=Jb I e;exact XB W.kitx_dict I.kIn ⟨ob,g,f⟩ (a.d _) (λz=>nomatch z) fin
def E5(T:String)(f:FE):FE:=λρ=>(f ρ).map λd=>.bl (Rw T d)
theorem vO(T:String)(B:KT T)(D:DP X c k e f)(C:X.mg "isinstance"=Sr)(m:X.mg y=Sr)(A:Gl X "isinstance":=by rfl)(i:Gl X y:=by rfl)(hv:T3 "isinstance"=p5 (.builtin "isinstance"):=by kernel_rfl)(l:T3 y=p5 (.type T):=by kernel_rfl)(x:y≠"__name__":=by decide)(g:(y==("__debug__":Str))=false:=by decide)
 (h:SF [e,.Name y p2] X.env=(Pa,eval e X.env)::SF [.Name y p2] X.env:=by rfl) (o:SF [.Name y p2] X.env=(Pa,eval (.Name y p2) X.env)::SF [] X.env:=by rfl) (j:(Ul pos (SF [.Name y p2] X.env)).any (·.1)=false:=by rfl):
 DP X c .s (.Call (.Name "isinstance" p) [e,.Name y p2] [] pos) (E5 T f):=λhid ρ=>
 PE.imp (fS (EL B) A C hv (bn (D hid ρ) (bn (JR (v:=.ty T) i m l rfl x g) bW o) h) () (by rfl) h j) λσ H Q t=>by
  obtain⟨u,d,g,q⟩:=t;unfold E5 at g;cases e1:f ρ with
  |none=>nofun
  |some z=>
   rw[e1] at g;cases g;exact⟨u,z,e1,λv w s' r=>⟨v,z,rfl,(RK.b k r λa n=>u.fresh n).full,q _ w s' .bl⟩⟩
def gS:List D->Option (List Bool)
 | []=>p5 []
 | .bl b::r=>(gS r).map (b:: ·)
 |_=>Sr
theorem wI: ∀ {ds:List D} {bs:List Bool} {i:Nat} {d:D},gS ds=p5 bs->ds[i]? =p5 d-> ∃b,d=.bl b/\bs[i]? =p5 b
 | [],_,_,_,_,h=>by simp at h
 |x::r,bs,i,d,h,e=>by
  cases x with
  |bl b=>
   unfold gS at h;cases e1:gS r with
   |none=>nofun
   |some f=>
    rw[e1] at h;cases h;cases i with
    |zero=>nofun
    |succ i=>
     obtain⟨b',c,a⟩:=wI (i:=i) e1 (by simpa using e);exact⟨b',c,by simpa using a⟩
  |_=>cases h
theorem wm: ∀ {ds:List D} {bs:List Bool},gS ds=p5 bs->ds.length=bs.length
 | [],_,h=>by cases h;rfl
 |x::r,bs,h=>by
  cases x with
  |bl b=>
   unfold gS at h;cases e1:gS r with
   |none=>nofun
   |some a=>rw[e1] at h;cases h;simp[wm e1]
  |_=>cases h
theorem DY(bs:List Bool):(Su bs.length).any (λi=>bs.getD i Pa)=bs.any id:=by
 induction bs with
 |nil=>rfl
 |cons b bs a=>
  rw[SX,Vq,YW,VL,YW];rw[show((λi=>(b::bs).getD i Pa)∘Y9)=λi=>bs.getD i Pa by rfl,a];rfl
theorem yD(bs:List Bool):(Su bs.length).all (λi=>bs.getD i Pa)=bs.all id:=by
 induction bs with
 |nil=>rfl
 |cons b bs a=>
  rw[SX,Vq,YV,jfc,YV];grind
theorem oR{bs:List Bool}(I:Inv X aa σ H s)(D:SqL X.K H a xs)(l:Reps X.K H xs ds)(m:gS ds=p5 bs)(F:X.calm=S1)
 (hR: ∀(J:Addr) (f:Sx) (c:Array Sw) (M:c.size=bs.length),Walks X.prog X.w X.A.in1 J [J,a] [J] c.size (λi v=>c[i]? =p5 v) (λi h=>h.IsListIter J a i/\h.IsList a c)->f.heap.IsListIter J a 0->f.heap.IsList a c->TruthOf X.prog X.w X.A.in1 (λi v=>c[i]? =p5 v) (λi=>bs.getD i Pa)->
   (∀h' tk,(∀b o,b∉ [J]->f.heap.get? b=p5 o->h'.get? b=p5 o)->Inv X aa σ H {f with heap:=h',toks:=tk})->R (.ref J) f):SL (model X.prog X.w) X.A.in1 (YS (.ref a)) R E s:=by
 obtain⟨c,y,pl,hz⟩:=I.list D;have N:=y.length;have S:=l.length;have T:=wm m;have k:a<s.heap.objs.size:=by obtain⟨o,n,e,_⟩:=pl;exact SH e
 refine YH pl.isList (hR s.heap.objs.size _ c.toArray (by nofun) (jhL (A:=X.A.in1) (I.ok.hd F) _ a (S7 k) c.toArray) ⟨_,SC _ rfl,rfl,rfl⟩ ?_ ?_ ?_)
 ·obtain⟨o,L,q⟩:=pl.isList;exact⟨o,Sy _ L,q⟩
 ·intro i v s' Q E hv j;have g:c[i]? =some v:=by simpa using hv
  have O:=(SK.mp g).1;have x:xs[i]? =p5 xs[i]:=SJ (by nofun);obtain⟨u,r,p⟩:=y.get x;rw[g] at r;cases r;obtain⟨d,z,t⟩:=l.get' x;obtain⟨b,rfl,P⟩:=wI m z;rcases B:xs[i] with _|_|_|_|_|_|_|_<;>rw[B] at p t<;>cases t
  cases p;have:bs.getD i false=b:=by nofun
  dsimp only at j;rw[this] at j;exact UD j
 ·intro h' tk C;refine I.kept λb o e=>C b o (λG=>?_) (Sy _ e)
  have:b=s.heap.objs.size:=by simpa using G
  exact absurd (this▸SH e) (TH _)
theorem wc(g:X.calm=S1):cO X (.builtin "any") (λxs H Q=> ∃a ys ds bs,xs=[.ref a]/\SqL X.K H a ys/\Reps X.K H ys ds/\gS ds=p5 bs/\Q (.bl (bs.any id)) H):=by
 intro o s σ H xs us Q I r h;obtain⟨a,ys,ds,bs,rfl,e,d,f,q⟩:=h;obtain⟨u,rfl,l⟩:=eQ r;cases l;refine call_any_walk (oR I e d f g λJ p k j W b c i m=>?_);refine⟨J,_,_,_,_,_,_,rfl,W,⟨b,c⟩,i,λh' tk n=>⟨.bl _,H,m h' tk n,rfl,?_⟩⟩;rw[j,DY];exact q
theorem wg(g:X.calm=S1):cO X (.builtin "all") (λxs H Q=> ∃a ys ds bs,xs=[.ref a]/\SqL X.K H a ys/\Reps X.K H ys ds/\gS ds=p5 bs/\Q (.bl (bs.all id)) H):=by
 intro o s σ H xs us Q I r h;obtain⟨a,ys,ds,bs,rfl,e,d,f,q⟩:=h;obtain⟨u,rfl,l⟩:=eQ r;cases l;refine call_all_walk (oR I e d f g λJ p k j W b c i m=>?_);refine⟨J,_,_,_,_,_,_,rfl,W,⟨b,c⟩,i,λh' tk n=>⟨.bl _,H,m h' tk n,rfl,?_⟩⟩;rw[j,yD];exact q
def E4:List D->Option D
 | [.lst ds]=>(gS ds).map λbs=>.bl (bs.any id)
 |_=>Sr
def yV:List D->Option D
 | [.lst ds]=>(gS ds).map λbs=>.bl (bs.all id)
 |_=>Sr
theorem Hf:gR X.K .s (λxs H Q=> ∃a ys ds bs,xs=[.ref a]/\SqL X.K H a ys/\Reps X.K H ys ds/\gS ds=p5 bs/\Q (.bl (bs.any id)) H) E4:=by
 intro H hid vs ds d Q f h r q;unfold E4 at h;split at h
 ·rename_i zs
  cases e1:gS zs with
  |none=>nofun
  |some bs=>
   rw[e1] at h;cases h;obtain⟨x,rfl,e⟩:=ej.one r;obtain⟨a,xs,rfl,c,b⟩:=e.lst;exact⟨a,xs,zs,bs,rfl,c,b.mono (bU _ _),e1,q _ H (ab.refl _) .bl⟩
 nofun
theorem Fy:gR X.K .s (λxs H Q=> ∃a ys ds bs,xs=[.ref a]/\SqL X.K H a ys/\Reps X.K H ys ds/\gS ds=p5 bs/\Q (.bl (bs.all id)) H) yV:=by
 intro H hid vs ds d Q f h r q;unfold yV at h;split at h
 ·rename_i zs
  cases e1:gS zs with
  |none=>nofun
  |some bs=>
   rw[e1] at h;cases h;obtain⟨x,rfl,e⟩:=ej.one r;obtain⟨a,xs,rfl,c,b⟩:=e.lst;exact⟨a,xs,zs,bs,rfl,c,b.mono (bU _ _),e1,q _ H (ab.refl _) .bl⟩
 nofun
def cq:List D->Option (List Int)
 | []=>p5 []
 | .int b::r=>(cq r).map (b:: ·)
 |_=>Sr
theorem dv: ∀ {ds:List D} {ns:List Int},cq ds=p5 ns->ds=ns.map D.int
 | [],_,h=>by cases h;rfl
 |x::r,bs,h=>by
  cases x with
  |int b=>
   unfold cq at h;cases e1:cq r with
   |none=>nofun
   |some a=>rw[e1] at h;cases h;simp[dv e1]
  |_=>cases h
theorem gl {K:SA}: ∀ {ns:List Int} {xs:List V},Reps K F xs (ns.map D.int)->xs=ns.map V.int
 | [],_,.nil=>rfl
 |n::ns,_,.cons r t=>by cases r;rw[gl t];rfl
def ml:List Int->Int
 | []=>0
 |a::r=>r.foldl (λm b=>if b<m then b else m) a
theorem wN(r:List Int): ∀a:Int,r.foldl (λm b=>if b<m then b else m) a∈a::r/\ ∀x∈a::r,r.foldl (λm b=>if b<m then b else m) a<=x:=by
 induction r with
 |nil=>intro a;simp
 |cons b r e=>
  intro a;rw[Vi];obtain⟨f,d⟩:=e (if b<a then b else a);have g:=d (if b<a then b else a) SM;refine⟨?_,λx c=>?_⟩
  ·grind
  ·rcases S6.mp c with rfl|c
   ·lia
   ·rcases S6.mp c with rfl|c
    ·omega
    ·exact d x (SI _ c)
theorem Ga: ∀(ns:List Int),ns≠[]->ml ns∈ns/\ ∀a∈ns,ml ns<=a
 | [],h=>absurd rfl h
 |a::r,_=>wN r a
theorem D1{m:Int}(d:m∈ns)(b: ∀a∈ns,m<=a):m=ml ns:=by
 obtain⟨c,f⟩:=Ga ns (by intro e;nofun);have:=b _ c;have:=f _ d;lia
theorem Cz(m:X.calm=S1):cO X (.builtin "min") (λxs H Q=> ∃a ns,xs=[.ref a]/\SqL X.K H a (ns.map V.int)/\ns≠[]/\Q (.int (ml ns)) H):=by
 intro z s σ H xs us Q I r h;obtain⟨a,ns,rfl,k,y,q⟩:=h;obtain⟨u,rfl,p⟩:=eQ r;cases p;obtain⟨c,x,pl,hz⟩:=I.list k;have d:jad c ns:=zG x;obtain⟨xs,e⟩:=d.allInts.items;have b:ns=xs.toList.map (·.1):=by rw[<-d.numsOf,<-nums_intItems,<-e]
 have hsz:0<xs.size:=by
  have:0<ns.length:=by grind
  nofun
 have f:=pl.isList;rw[e] at f;refine min_intList (I.ok.hd m) f hsz λv h' tk hv w=>?_
 obtain⟨t,rfl⟩:=intItems_at hv;obtain⟨A,o⟩:=argBest_lt (numAt xs) (xs.size-1);have l:numAt xs (argBest (λi j=>decide (numAt xs i<numAt xs j)) (xs.size-1))=ml ns:=by
  refine D1 ?_ λa g=>?_
  ·rw[b,numAt_eq];grind
  ·rw[b] at g;obtain⟨j,n,rfl⟩:=mem_getD g;rw[SO,S8] at n;rw[<-numAt_eq];exact o j ⋯
 exact⟨.int (ml ns),H,I.kept w,⟨t,by rw[<-l]⟩,q⟩
def wB:List D->Option D
 | [.lst ds]=>(cq ds).bind λns=>if ns.isEmpty then Sr else p5 (.int (ml ns))
 |_=>Sr
theorem JJ:gR X.K .s (λxs H Q=> ∃a ns,xs=[.ref a]/\SqL X.K H a (ns.map V.int)/\ns≠[]/\Q (.int (ml ns)) H) wB:=by
 intro H hid vs ds d Q f h r q;unfold wB at h;split at h
 ·rename_i zs
  cases e1:cq zs with
  |none=>nofun
  |some ns=>
   rw[e1] at h;have h:(if ns.isEmpty then Sr else p5 (D.int (ml ns)))=p5 d:=h;split at h
   ·nofun
   ·cases h;obtain⟨x,rfl,e⟩:=ej.one r;obtain⟨a,xs,rfl,c,b⟩:=e.lst;rw[dv e1] at b;rw[gl b] at c;exact⟨a,ns,rfl,c,(by grind),q _ H (ab.refl _) .int⟩
 nofun
end
end
end Lake
namespace PySem.SeqAt
noncomputable section
open AutoSeq1 (wpAny_loadPart')
open MeetsSeq MeetsSeq2 MeetsSeq3 SeqRoads2
theorem nU {M:Model}{A:Tr}{E:Sw->Sx->Prop}{s:Sx}{β:Type}(f:Nat->β->Sem (ForInStep β))(I:List Nat->β->Sx->Prop)(Q:β->Sx->Prop)
 (turn: ∀x d b s,I (x::d) b s->SL M A (f x b) (λr s'=>match r with| .yield b'=>I d b' s'| .done b'=>Q b' s') E s)
 (fin: ∀b s,I [] b s->Q b s) (a b:Nat) (c:β) (h:I (Xa a (b-a)) c s):SL M A (forIn [a:b] c f) Q E s:=by
 rw[Std.Legacy.Range.forIn_eq_forIn_range'];have hsz:([a:b]:Std.Legacy.Range).size=b-a:=by simp
 show SL M A (forIn (Xa a ([a:b]:Std.Legacy.Range).size 1) c f) Q E s;rw[hsz];exact Xz f I Q turn fin _ c h
theorem tuple_indexAt(l:Addr)(items:Array Sw)(n:Nat)(v:Option Addr)(k:Array (Option Sw))(x:Sw)(e:Sw->Bool)(j:Nat)(D:j<items.size)(c:e items[j]=S1)(f: ∀m (E:m<items.size),m<j->e items[m]=Pa):
 Meets (Vc.«tuple.index» ⟨[.ref l,x],[]⟩)
  (λA R s=>s.heap.get? l=p5 {cls:=.type "tuple",dict:=v,data:=.seq items n,slots:=k}/\(∀y,y∈items->EqAt A.in1 s y x (e y))/\R (.ok (.ret (.int j s.toks))) {s with toks:=s.toks+1}):=
 .of_wp λprog w A R s h=>by
  obtain⟨o,g,d,tk,os⟩:=s;obtain⟨u,z,h⟩:=h
  wp_walk using VC u,nU _ (λa b s'=>b.1=Sr/\s'=⟨o,g,d,tk,os⟩/\ ∃i,i<=j/\a=Xa i (items.size-i)) _
  case turn=>
   rintro y a b s' ⟨C,rfl,i,B,hz⟩;have lt:i<items.size:=by lia
   have t:Xa i (items.size-i)=i::Xa (i+1) (items.size- (i+1)):=by
    rw[show items.size-i=(items.size- (i+1))+1 by grind];rfl
   rw[t] at hz;injection hz with p r
   subst p r;rw[show items[y]? =p5 items[y] by simp];refine Ss (z _ (jbg lt) prog w _ _ ?_)
   by_cases q:y=j
   ·subst q;rw[c]
    wp_walk
    lia
   ·rw[f y lt ⋯]
    wp_walk
    lia
  case fin=>
   grind
  case h=>
   exact⟨rfl,rfl,0,Ur _,by simp⟩
end
end PySem.SeqAt
namespace Lake
noncomputable section
open PySem PySem.Spec PyProof.Rows
def wG(ds:List D)(x:D):Option Nat:=ds.findIdx? λd=>ig d x
theorem Kl {X:Cx}(I:Inv X aa σ H s){A:Tr}(f:Rep X.K H v x)(h:b6 v a): ∀ {ds:List D} {xs:List V} {b:List Sw},Reps X.K H xs ds->cc xs b->A.units+bM (x::ds)<Tq->
 ∃e:Sw->Bool,(∀y,y∈b->VQ A s y a (e y))/\ ∀(j:Nat) (i:j<b.length) (d:D),ds[j]? =p5 d->e b[j]=ig d x:=by
 exact λr g c=>Fk I f h r g (SZ (Vl (WI _ _) _) c) (SZ (Vl (W0 _ _) _) c)
section
variable {X:Cx}
theorem xI(T:X.A.units+64<Tq):Oa X "tuple.index" (λv vs H Q=> ∃a xs ds x y j,v=.ref a/\vs=[x]/\SqT X.K H a xs/\Reps X.K H xs ds/\Rep X.K H x y/\bM (y::ds)<=32/\wG ds y=p5 j/\Q (.int j) H):=by
 intro M s σ H v vs u us Q I J B h;obtain⟨a,xs,ds,x,y,j,rfl,rfl,t,g,z,U,d,q⟩:=h;cases J;obtain⟨w,rfl,f⟩:=eQ B;obtain⟨b,r,pl,hz⟩:=I.tuple t;have S:=r.length;have R:=g.length;obtain⟨e,O,D⟩:=Kl (A:=X.A.in1.in1) I z f g r ⋯;unfold wG at d;rw[Xd] at d;obtain⟨N,L,C⟩:=d;obtain⟨⟨cls,E,data,p⟩,o,k,n,i⟩:=id pl;simp only at k i;subst k i;have G:j<b.length:=by lia
 have P: ∀m (l:m<b.length) (c:m<ds.length),e b[m]=ig ds[m] y:=λm l c=>D m l _ (SJ c)
 refine Yr YX ⟨_,o,rfl⟩ PySem.F.entry_tuple_index (PySem.F.args_tuple_index_2 _ _) (SeqAt.tuple_indexAt a b.toArray n E p w e j (by omega) ?_ ?_) ⟨o,?_,?_⟩
 ·nofun
 ·nofun
 ·grind[SeqAt.EqAt.of_in1]
 ·exact⟨.int j,H,I.tok _,⟨_,rfl⟩,q⟩
end
section
variable {X:Cx}{f:FE}{pos p apos:Pos}
def sV:D->D->Option D:=λt x=>match t with
 | .tup ds=>if bM (x::ds)<=32 then(wG ds x).map λj=>.int j else Sr
 |_=>Sr
theorem mQ(O:X.A.units+64<Tq)(N:DP X c k o f)(P:DP X c k2 e g)
 (l:UG o "index" X.env (eval o X.env)=eval o X.env:=by rfl)
 (p:((Ul pos (SF [e] X.env)).all (λx=> !x.1)&&(XO pos (V7 [] X.env)).all (λx=>x.1.isSome)
   &&Oo (([e]:List Expr).length+([]:List VI).length+(if([]:List VI).isEmpty then 0 else 1)<30))=true:=by rfl)
 (i:(apos.endLine==pos.line)=true:=by rfl) (C:SF [e] X.env=(Pa,eval e X.env)::SF [] X.env:=by rfl) (h:(Ul pos (SF [] X.env)).any (·.1)=false:=by rfl):
 DP X c .s (.Call (.Attribute o "index" apos) [e] [] pos) (ar sV f g):=λhid ρ=>
 PE.imp (xJ PySem.F.plainAttrs_tuple YX PySem.F.type_tuple_index (xI O) (N hid ρ) (bn (P hid ρ) bW C) l p i C h) λσ H Q z=>by
  obtain⟨r,d,K,q⟩:=z;obtain⟨x,y,E,J,m⟩:=xH K;unfold sV at m;split at m
  ·split at m
   ·rename_i ds _
    cases e4:wG ds y with
    |none=>nofun
    |some j=>
     rw[e4] at m;cases m;refine⟨r,_,E,λv S t R=>?_⟩;have G:=RK.b k R λa n=>r.fresh n
     obtain⟨a,xs,rfl,T,B,M⟩:=G.tup;refine⟨.inr (.inl ⟨rfl,xs,B⟩),r.ext t,y,J,λu I w L=>?_⟩;have D:=RK.b k2 L λa n=>(r.ext t).fresh n
     exact⟨a,xs,ds,u,y,j,rfl,rfl,ab.seqT w B,(M.mono (aC w)).mono (bU _ _),D.full, ‹_›,e4,q _ I (t.trans w) .int⟩
   nofun
  nofun
theorem DF:cO X (.type "range") (λxs H Q=> ∃j:Int,xs=[.int j]/\ ∀p,H p=Sr->Q (.ref p) (aW H p (.rng 0 j))):=by
 intro a s σ H xs us Q I r h;obtain⟨j,rfl,q⟩:=h;obtain⟨u,rfl,t,rfl⟩:=eQ r;refine call_range_1 ⟨.ref s.heap.objs.size,_,I.laid (λb o e=>Sy _ e) (SB _) ?_,rfl,q _ (I.hok.fresh (SB _))⟩;exact⟨_,_,_,SC _ rfl⟩
theorem Pt(b:Int)(n:Nat): ∀ {K:SA} {F:Hp},Reps K F ((Su n).map λ(i:Nat)=>V.int (b+i)) (CQ b n):=by
 intro K F;unfold CQ;generalize Su n=l
 induction l with
 |nil=>exact .nil
 |cons a l c=>exact .cons .int c
theorem qM(D:X.calm=S1):cO X (.type "list") (λxs H Q=> ∃p d f,xs=[.ref p]/\H p=p5 (.rng d f)/\ -(2^30)<=d/\d<=2^30/\ -(2^30)<=f/\f-d<=1000000/\f<=2^31/\ ∀l,H l=Sr->Q (.ref l) (aW H l (.lst ((Su (f-d).toNat).map λ(i:Nat)=>V.int (d+i))))):=by
 intro L s σ H xs us Q I r h;obtain⟨p,d,f,rfl,A,M,J,S,N,P,q⟩:=h;obtain⟨u,rfl,F⟩:=eQ r;cases F;obtain⟨t,u,v,E⟩:=I.hok p _ A;have hsz:W8 d f 1=(f-d).toNat:=by
  unfold W8;grind
 refine call_list_range (a:=d) (b:=f) (c:=1) (n:=(f-d).toNat) (I.ok.hd D) E ?_ hsz ⋯ λh' tk g C G O o=>?_
 ·grind[small_one]
 ·have hz:(f-d).toNat<=sizeLine:=by rw[T8];lia
  refine⟨.ref s.heap.objs.size,_,I.laid (t':=tk) G (SB _) (show ci X.prog X.w _ h' _ (.lst _) from⟨by nofun,g.toList,C,?_,by omega⟩),rfl,q _ (I.hok.fresh (SB _))⟩;obtain⟨R,K⟩:=o;have y: ∀(l:List Sw) (k m:Nat),l.length=m->(∀(j:Nat) v,l[j]? =p5 v-> ∃t,v=.int (d+((k+j:Nat):Int)*1) t)->cc ((Xa k m).map λ(i:Nat)=>V.int (d+i)) l:=by
   intro l
   induction l with
   |nil=>intro k m z _;subst z;exact .nil
   |cons x l B=>
    intro k m z hv;subst z;rw[SX,jbG];refine .cons ?_ (B (k+1) l.length rfl λj v e=>?_)
    ·obtain⟨t,rfl⟩:=hv 0 x rfl;exact⟨t,by simp⟩
    ·obtain⟨t,rfl⟩:=hv (j+1) v (by simpa using e);lia
  have:=y g.toList 0 (f-d).toNat (by omega) λj v e=>by
   nofun
  rw[ZZ];omega
def K4:D->Option D
 | .int j=>if j.natAbs<=1000000 then p5 (.lst (CQ 0 j.toNat)) else Sr
 |_=>Sr
def HH(f:FE):FE:=λρ=>(f ρ).bind K4
theorem eN(J:X.calm=S1)(s:X.mg "list"=Sr)(w:X.mg "range"=Sr)(M:DP X c k e f)(A:Gl X "list":=by rfl)(x:Gl X "range":=by rfl)(y:T3 "list"=p5 (.type "list"):=by kernel_rfl)(u:T3 "range"=p5 (.type "range"):=by kernel_rfl)
 (m:SF [e] X.env=(Pa,eval e X.env)::SF [] X.env:=by rfl) (i:(Ul pos (SF [] X.env)).any (·.1)=false:=by rfl) (h:(Ul p2 (SF [] X.env)).any (·.1)=false:=by rfl) {t:Pos}
 (o:SF [.Call (.Name "range" t) [e] [] p2] X.env=(Pa,eval (.Call (.Name "range" t) [e] [] p2) X.env)::SF [] X.env:=by rfl):
 DP X c .n (.Call (.Name "list" p) [.Call (.Name "range" t) [e] [] p2] [] pos) (HH f):=λhid ρ=>
 PE.imp (fD (qM J) A s y (bn (fD DF x w u (bn (M hid ρ) bW m) () (by rfl) m h) bW o) () (by rfl) o i) λσ H Q B=>by
  obtain⟨C,d,g,q⟩:=B;unfold HH at g;cases e1:f ρ with
  |none=>nofun
  |some z=>
   rw[e1] at g;have g:K4 z=p5 d:=g;unfold K4 at g;split at g
   ·split at g
    ·rename_i _ j _ _
     cases g;refine⟨C,_,e1,λv F G N=>?_⟩;have I:=(RK.b k N λa n=>C.fresh n).int;cases I;refine⟨j,rfl,λr L=>?_⟩;refine⟨r,0,j,rfl,aA,by simp,by simp,by grind,by grind,⋯,λl E=>?_⟩;have D:ab H (aW F r (.rng 0 j)):=G.trans (aJ L _);refine q _ _ (D.trans (aJ E _)) ?_
     have:=fH (hid:=hid) (K:=X.K) E D (Pt 0 (j-0).toNat);rw[show(j-0).toNat=j.toNat by simp] at this⊢;exact this
    nofun
   nofun
def bG:=i2 (λ_ _=>S1) λi j=>.int (i+j)
def cw:=i2 (λ_ _=>S1) λi j=>.int (i-j)
def eV:=i2 (λi j=>decide (i.natAbs<2^1000)&&Oo (j.natAbs<2^1000)) λi j=>.int (i*j)
def bp:=i2 (λ_ j=>decide (0<j)) λi j=>.int (i % j)
def k9:=i2 (λ_ j=>decide (0<j)&&Oo (j.natAbs<2^1000)) λi j=>.int (i / j)
def ft:=i2 (λi j=>decide (0<=j)&&Oo (j<=1000000)&&Oo (i.natAbs<2^64)) λi j=>.int (i^j.toNat)
def nW:=i2 (λ_ _=>S1) λi j=>.bl (Oo (i<j))
def OZ:=i2 (λ_ _=>S1) λi j=>.bl (Oo (i<=j))
def FK:=i2 (λ_ _=>S1) λi j=>.bl (Oo (j<i))
def Rr:=i2 (λ_ _=>S1) λi j=>.bl (Oo (j<=i))
theorem AF {i:Int}(h:i.natAbs<2^1000):Vm i<=2^20:=by
 unfold Vm;split
 ·simp
 ·rename_i hz
  have a:i.natAbs≠0:=by nofun
  have:=(jcb a).mpr h;lia
theorem KA:kZ X (Vt .Mult) (rI IntMulOk λi j=>.int (i*j)):=Pw λ_ _ _ _ _ _ _ a q=>mul_int q a
variable {b:Expr}
theorem bO {i e:Kd}(h:DP X c i a f)(d:DP X c e b g):DP X c .s (.BinOp a .Add b pos) (ar bG f g):=kE Gj AS h d
theorem b7 {i e:Kd}(h:DP X c i a f)(d:DP X c e b g):DP X c .s (.BinOp a .Sub b pos) (ar cw f g):=kE L8 AS h d
theorem NK {K:SA}:rH K .s (rI IntMulOk λi j=>.int (i*j)) eV:=Hh λi j h=>by
 simp only[TR,vu] at h;exact IntMulOk.of_bits (AF h.1) (AF h.2)
theorem iA {i e:Kd}(h:DP X c i a f)(d:DP X c e b g):DP X c .s (.BinOp a .Mult b pos) (ar eV f g):=kE KA NK h d
theorem Ml {K:SA}:rH K .s (rI (λ_ j=>0<j) λi j=>.int (i % j)) bp:=Hh λi j h=>by nofun
theorem cj {i e:Kd}(h:DP X c i a f)(d:DP X c e b g):DP X c .s (.BinOp a .Mod b pos) (ar bp f g):=kE Mf Ml h d
theorem Hg:kZ X (Vt .FloorDiv) (rI (λ_ j=>0<j/\j.natAbs<2^1000) λi j=>.int (i / j)):=Pw λi j _ _ _ _ _ b q=>by
 obtain⟨c,a⟩:=b;refine floordiv_int ⋯ (by rw[Int.fdiv_eq_ediv_of_nonneg i ⋯];exact q) (.inl (PyProof.noPylong_of_log2 ?_));have:=(jcb (n:=j.natAbs) (by grind)).mpr a;lia
theorem Ip {K:SA}:rH K .s (rI (λ_ j=>0<j/\j.natAbs<2^1000) λi j=>.int (i / j)) k9:=Hh λi j h=>by
 nofun
theorem z9 {i e:Kd}(h:DP X c i a f)(d:DP X c e b g):DP X c .s (.BinOp a .FloorDiv b pos) (ar k9 f g):=kE Hg Ip h d
theorem L5 {K:SA}:rH K .s (rI Jw λi j=>.int (i^j.toNat)) ft:=Hh λi j h=>by
 simp only[TR,vu] at h;exact⟨h.1.1,h.1.2,h.2⟩
theorem l0 {i e:Kd}(h:DP X c i a f)(d:DP X c e b g):DP X c .s (.BinOp a .Pow b pos) (ar ft f g):=kE Ny L5 h d
theorem GS {f g:GE}(d:DE X c .s a f)(e:DE X c .s b g):DE X c .s (.BinOp a .Add b pos) (oM bG f g):=O8 Gj AS d e
def LX:D->Option D
 | .int i=>p5 (.int (-i))
 |_=>Sr
def yw(f:FE):FE:=λρ=>(f ρ).bind LX
theorem kN(l:DP X c k a f):DP X c .s (.UnaryOp .USub a pos) (yw f):=λhid ρ=>PE.imp (PJ ME (l hid ρ)) λσ H Q g=>by
 obtain⟨h,d,e,q⟩:=g;unfold yw at e;cases e1:f ρ with
 |none=>nofun
 |some z=>
  rw[e1] at e;have e:LX z=p5 d:=e;unfold LX at e;split at e
  ·cases e;refine⟨h,_,e1,λv i j m=>?_⟩;cases (RK.b k m λa n=>h.fresh n).int;exact⟨_,rfl,q _ i j .int⟩
  nofun
def yb:List D->Option D
 | [.int i]=>p5 (.int i)
 | [.bl b]=>p5 (.int (if b then 1 else 0))
 |_=>Sr
theorem u9:gR X.K .s (λxs H Q=>(∃i,xs=[.int i]/\Q (.int i) H)\/ ∃k,xs=[.bl k]/\Q (.int (if k then 1 else 0)) H) yb:=by
 intro H hid vs ds d Q b h r q;unfold yb at h;split at h
 ·cases h;obtain⟨x,rfl,a⟩:=ej.one r;cases a.int;exact .inl ⟨_,rfl,q _ H (ab.refl _) .int⟩
 ·cases h;obtain⟨x,rfl,a⟩:=ej.one r;cases a.bl;exact .inr ⟨_,rfl,q _ H (ab.refl _) .int⟩
 nofun
end
structure Cl(P:S9)(w:Tu)(K:SA)(mg:Str->Option Sw)(base:Heap)(k:Nat)(x:Str)(ps:List Str)(sp:Sp):Prop where
 ex: ∃f fd,j3 P w K mg base vV k f fd ps sp/\mg x=p5 (.ref f)/\Yq K (.ref f)=S1/\ni K fd ps []
structure Df(K:SA)(mg:Str->Option Sw)(x:Str)(st:Stmt)(ps:List Str):Prop where
 ex: ∃f fd,Fun K x x st f fd/\mg x=p5 (.ref f)/\ni K fd ps []
section
variable {K:SA}{st:Stmt}{N ps:List Str}
theorem aL(F:Df K mg x st ps)(S:bg N ps (av st))(e:kd≠ .b)(i:ps.length=n)
 (c: ∀(f:Addr) (d:Sw) (A:Tr) (a:List Env) (s:Sx) (H:Hp) (hid:bC) (E:XK),fq k (A.deeper (XW x (av st) s.heap.objs.size f d))->
   z7 (qT vV P w K mg base N x (av st) f d A a s H E).nox ⟨H,hid,λ_=>Pa⟩ kd (c6 st) t):
 Cl P w K mg base (k+1) x ps (spP K kd n (bL kd N.length t)):=by
 obtain⟨f,j,F,h,g⟩:=F.ex;subst i;exact⟨f,j,B9 F S e (c f),h,F.kp,g⟩
theorem uQ(F:Df K mg x st ps)(S:bg N ps (av st))(g:kd≠ .b)(j:ps.length=n+1)
 (d: ∀(f:Addr) (e:Sw) (A:Tr) (c:List Env) (s:Sx) (H:Hp) (hid:bC) (a:Addr) (E:XK),fq k (A.deeper (XW x (av st) s.heap.objs.size f e))->
   z7 (qT vV P w K mg base N x (av st) f e A c s H E).nox ⟨H,hid,λb=>decide (b=a)⟩ kd (c6 st) t):
 Cl P w K mg base (k+1) x ps (spE K kd n (xZ kd N.length t)):=by
 obtain⟨f,l,F,i,h⟩:=F.ex;exact⟨f,l,MW F S g j (d f),i,F.kp,h⟩
end
section
variable {X:Cx}{n:Nat}
def nF(n:Nat)(P:List D->Option D):List D->Option D:=λds=>if ds.length=n then P ds else Sr
theorem a9(C:Cl X.prog X.w X.K X.mg X.base j x ps (spP X.K k n P))(m:fq j X.A)
 (i:DA X c (e::es) fs) (h:Gl X x:=by rfl) (b:(x==("__debug__":Str))=false:=by decide) (o:SF (e::es) X.env=(Pa,eval e X.env)::SF es X.env:=by rfl) (a:(Ul pos (SF es X.env)).any (·.1)=false:=by rfl):
 DP X c k (.Call (.Name x p) (e::es) [] pos) (au (nF n P) fs):=by
 obtain⟨f,q,F,g,l,d⟩:=C.ex;exact Jk F m g l d i h b o a
theorem jy(i:Nat)(C:Cl X.prog X.w X.K X.mg X.base j x ps (spE X.K k n M))(u:fq j X.A)
 (q:DG X c es fs) (e:k≠ .b:=by decide) (s:X.N[i]? =p5 y:=by rfl) (hv:lW X.env.scope y:=by first|exact TL rfl|exact Te (TL rfl)|exact Te (Te rfl)) (r:(y==("__debug__":Str))=false:=by decide)
 (d:(y==("__classdict__":Str))=false:=by decide) (l:SF (.Name y py::es) X.env=(Pa,eval (.Name y py) X.env)::SF es X.env:=by rfl) (o:Gl X x:=by rfl) (g:(x==("__debug__":Str))=false:=by decide) (a:(Ul pos (SF es X.env)).any (·.1)=false:=by rfl):
 DE X c k (.Call (.Name x p) (.Name y py::es) [] pos) (aV i n M fs):=by
 obtain⟨f,v,F,m,t,h⟩:=C.ex;exact EY i F u m t h q e s hv r d l o g a
end
open PySem PySem.W PyProof.Rows
structure Od(b:Nat->Nat->Bool):Prop where
 tr: ∀ {i j k:Nat},b j i=Pa->b k j=Pa->b k i=Pa
 as: ∀ {i j:Nat},b i j=S1->b j i=Pa
theorem Od.rf(O:Od b)(i:Nat):b i i=false:=by
 cases h:b i i with
 |false=>rfl
 |true=>have:=O.as h;nofun
structure Pm(N:Nat)(p:Array Nat):Prop where
 perm:p.Perm (UJ (Su N))
theorem Pm.size {N:Nat}{p:Array Nat}(h:Pm N p):p.size=N:=by rw[h.perm.size_eq];simp
theorem Pm.lt {N:Nat}{p:Array Nat}(h:Pm N p)(b:0<N)(k:Nat):p.getD k 0<N:=by
 by_cases a:k<p.size
 ·have e:p.getD k 0=p[k]:=by nofun
  rw[e];have:p[k]∈(UJ (Su N)):=h.perm.mem_iff.mp (jbg a);nofun
 nofun
theorem Ly {p q:Array Nat}(h:p[i]? =q[j]?):p.getD i 0=q.getD j 0:=by
 rw[Yd,Yd,h]
section
variable {b:Nat->Nat->Bool}{N:Nat}{cmp:Nat->Nat->(Bool->Sx->Prop)->Sx->Prop}{s:Sx}
def Srt(b:Nat->Nat->Bool)(p:Array Nat)(n:Nat):Prop:= ∀i j,i<=j->j<n->b (p.getD j 0) (p.getD i 0)=Pa
def Fal(b:Nat->Nat->Bool)(p:Array Nat)(n:Nat):Prop:= ∀i j,i<=j->j<n->b (p.getD i 0) (p.getD j 0)=Pa
theorem Srt.succ(O:Od b){p:Array Nat}(h:Srt b p n)(f:1<=n)(e:b (p.getD n 0) (p.getD (n-1) 0)=Pa):Srt b p (n+1):=λi j a g=>by
 by_cases d:j<n
 ·exact h i j a d
 ·have:j=n:=by lia
  subst this
  by_cases c:i=j
  ·subst c;exact O.rf _
  ·exact O.tr (h i (j-1) ⋯ (by omega)) e
theorem Fal.succ(O:Od b){p:Array Nat}(h:Fal b p n)(f:1<=n)(e:b (p.getD (n-1) 0) (p.getD n 0)=Pa):Fal b p (n+1):=λi j a g=>by
 by_cases d:j<n
 ·exact h i j a d
 ·have:j=n:=by omega
  subst this
  by_cases c:i=j
  ·subst c;exact O.rf _
  ·exact O.tr e (h i (j-1) (by omega) (by omega))
theorem Fal.congr(O:Od b){p q:Array Nat}(h:Fal b p n)(e: ∀k,k<n->b (p.getD k 0) (q.getD k 0)=Pa/\b (q.getD k 0) (p.getD k 0)=Pa):Fal b q n:=λi j a c=>
 O.tr (O.tr (e j c).1 (h i j a c)) (e i (by omega)).2
theorem Km(O:Od b)(p:Array Nat):Srt b p 1:=λi j a c=>by
 have:i=j:=by nofun
 subst this;exact O.rf _
theorem Iu(O:Od b)(p:Array Nat):Fal b p 1:=λi j a c=>by
 have:i=j:=by omega
 subst this;exact O.rf _
theorem mD {p:Array Nat}(a:j<=p.size)(k:Nat):(Ye p i j).getD k 0=if i<=k/\k<j then p.getD (i+j-1-k) 0 else p.getD k 0:=by
 have:=getElem?_mirror_all (i:=i) a k;unfold Ye;split
 ·nofun
 nofun
theorem Pm.rev(h:Pm N p)(i j:Nat):Pm N (Ye p i j):=⟨(mirror_perm _ _ _ _).trans h.perm⟩
variable(O:Od b)(hN:0<N)(hc: ∀(i j:Nat) (C:Bool->Sx->Prop),i<N->j<N->C (b i j) s->cmp i j C s)
include O hN hc
theorem yj {p:Array Nat}(P:Pm N p): ∀(f n:Nat),1<=n->n+f<=N->Srt b p n->
 (∀m,n<=m->m<=n+f->Srt b p m->(m<n+f->b (p.getD m 0) (p.getD (m-1) 0)=S1)->Q m s)->(kas_asc p f n).kasWp cmp Q s
 |0,n,c,d,a,q=>q n (SB _) (SB _) a λz=>absurd z (TH _)
 |f+1,n,c,d,a,q=>by
  unfold kas_asc;refine hc _ _ _ (P.lt hN _) (P.lt hN _) ?_
  cases e:b (p.getD n 0) (p.getD (n-1) 0) with
  |true=>simp only[if_true];exact q n (SB _) (by simp) a λ_=>e
  |false=>
   simp only[SW,if_false];exact yj P f (n+1) (by simp) ⋯ (a.succ O c e) λm i j g h=>q m ⋯ (by omega) g λz=>h (by omega)
def Eqs(b:Nat->Nat->Bool)(p:Array Nat)(n q:Nat):Prop:= ∀i,n- (q+1)<=i->i<n->b (p.getD i 0) (p.getD (n-1) 0)=Pa/\b (p.getD (n-1) 0) (p.getD i 0)=Pa
omit hN hc in
theorem Eqs.rev {p:Array Nat}(e:n<=p.size)(f:q<n)(h:Eqs b p n q)(k:Nat):b (p.getD k 0) ((Ye p (n- (q+1)) n).getD k 0)=Pa/\b ((Ye p (n- (q+1)) n).getD k 0) (p.getD k 0)=false:=by
 rw[mD e];split
 ·rename_i c
  have a:=h k c.1 c.2;have d:=h (n- (q+1)+n-1-k) (by omega) (by omega);exact⟨O.tr d.2 a.1,O.tr a.2 d.1⟩
 ·exact⟨O.rf _,O.rf _⟩
theorem oG: ∀(f:Nat) (p:Array Nat) (n q:Nat),Pm N p->1<=n->n+f<=N->q<n->Fal b p n->Eqs b p n q->
 (∀a c d,Pm N a->n<=c->c<=n+f->d<c->Fal b a c->Eqs b a c d->Q (a,c,d) s)->(kas_desc f p n q).kasWp cmp Q s
 |0,p,n,q,P,l,v,m,g,j,k=>k p n q P (SB _) (SB _) m g j
 |f+1,p,n,q,P,l,v,m,g,j,k=>by
  have hz:=P.size;have t: ∀a:Array Nat,Eqs b a (n+1) 0:=λa i h o=>by
   have:i=n:=by lia
   subst this;exact⟨O.rf _,O.rf _⟩
  unfold kas_desc;refine hc _ _ _ (P.lt hN _) (P.lt hN _) ?_
  cases e:b (p.getD n 0) (p.getD (n-1) 0) with
  |true=>
   simp only[if_true];split
   ·rename_i B
    have u:=j.rev O ⋯ m;have r:Fal b (Ye p (n- (q+1)) n) n:=g.congr O λk _=>u k
    refine oG f _ (n+1) 0 (P.rev _ _) (by simp) ⋯ (by simp) (r.succ O l ?_) (t _) λa c d h o y=>k a c d h ⋯ (by grind)
    have w:(Ye p (n- (q+1)) n).getD n 0=p.getD n 0:=by rw[mD (by grind),if_neg (by simp)]
    rw[w];exact O.tr (O.as e) (u (n-1)).2
   ·exact oG f p (n+1) 0 P (by simp) (by omega) (by simp) (g.succ O l (O.as e)) (t _) λa c d h o y=>k a c d h ⋯ ⋯
  |false=>
   simp only[SW,if_false];refine hc _ _ _ (P.lt hN _) (P.lt hN _) ?_
   cases e2:b (p.getD (n-1) 0) (p.getD n 0) with
   |true=>simp only[if_true];exact k p n q P (SB _) (by simp) m g j
   |false=>
    simp only[SW,if_false];refine oG f p (n+1) (q+1) P (by simp) ⋯ (by nofun) (g.succ O l e2) (λi h o=>?_) λa c d x C D=>k a c d x ⋯ ⋯
    rw[show n+1-1=n by simp]
    by_cases A:i=n
    ·subst A;exact⟨O.rf _,O.rf _⟩
    ·have z:=j i (by nofun) ⋯;exact⟨O.tr e2 z.1,O.tr z.2 e⟩
theorem xP(P:Pm N p)(d:1<=n)(h:n<=N)(f:Fal b p n)(q: ∀m a,Pm N a->1<=m->m<=N->Srt b a m->Q (m,a) s):(kas_tail3 n N p).kasWp cmp Q s:=by
 unfold kas_tail3;rw[W1];have hz:=P.size;have c:Srt b (Ye p 0 n) n:=λi j g o=>by
  rw[mD (by nofun),mD (by nofun),if_pos (by nofun),if_pos (by omega)];exact f _ _ (by omega) (by omega)
 exact yj O hN hc (P.rev _ _) (N-n) n d (by nofun) c λm k l e _=>q m _ (P.rev _ _) ⋯ (by nofun) e
theorem nB(P:Pm N p)(l:1<=n)(o:n+1<=N)(e:Fal b p (n+1))(q: ∀m a,Pm N a->1<=m->m<=N->Srt b a m->Q (m,a) s):(kas_descPart n N p).kasWp cmp Q s:=by
 unfold kas_descPart;rw[W1];refine oG O hN hc (N- (n+1)) p (n+1) 0 P (by simp) (by nofun) (by simp) e (λi c h=>?_) λa j t c h r f d g=>?_
 ·have:i=n:=by lia
  subst this;exact⟨O.rf _,O.rf _⟩
 ·dsimp only;have hz:=c.size;split
  ·exact xP O hN hc (c.rev _ _) (by grind) (by nofun) (d.congr O λk _=>g.rev O (by nofun) f k) q
  ·grind[xP]
theorem FY(P:Pm N p)(q: ∀m f,Pm N f->1<=m->m<=N->Srt b f m->Q (m,f) s):(kas_count N p).kasWp cmp Q s:=by
 unfold kas_count;rw[W1];have hz:=P.size;refine yj O hN hc P (N-1) 1 (SB _) (by grind) (Km O p) λm a u c r=>?_
 split
 ·exact q m p P a (by nofun) c
 ·rename_i n
  have o:m≠N:=by simpa using n
  have lt:=r (by omega);split
  ·refine hc _ _ _ (P.lt hN _) (P.lt hN _) ?_
   cases e:b (p.getD 0 0) (p.getD (m-1) 0) with
   |true=>simp only[if_true];exact q m p P a ⋯ c
   |false=>
    simp only[SW,if_false];have k: ∀i j,i<m->j<m->b (p.getD i 0) (p.getD j 0)=false:=λi j g h=>O.tr (O.tr (c j (m-1) ⋯ (by grind)) e) (c 0 i (by simp) g)
    have d: ∀i,i<m->(Ye p 0 m).getD i 0=p.getD (0+m-1-i) 0:=λi g=>by rw[mD ⋯,if_pos (by nofun)]
    refine nB O hN hc (P.rev _ _) a (by grind) (Fal.succ O (λi j t h=>?_) a ?_) q
    ·rw[d i ⋯,d j h];exact k _ _ (by omega) (by omega)
    ·have l:(Ye p 0 m).getD m 0=p.getD m 0:=by rw[mD (by grind),if_neg (by simp)]
     rw[l,d (m-1) ⋯];exact O.tr (O.as lt) (k _ _ ⋯ ⋯)
  ·have:m=1:=by grind
   subst this;exact nB O hN hc P (SB _) ⋯ ((Iu O p).succ O (SB _) (O.as lt)) q
theorem oH {p:Array Nat}(P:Pm N p)(d:Srt b p k): ∀(f l r:Nat),l<=r->r<=k->r-l<=f->(∀i,i<l->b (p.getD k 0) (p.getD i 0)=Pa)->(∀i,r<=i->i<k->b (p.getD k 0) (p.getD i 0)=S1)->
 (∀m,m<=k->(∀i,i<m->b (p.getD k 0) (p.getD i 0)=Pa)->(∀i,m<=i->i<k->b (p.getD k 0) (p.getD i 0)=S1)->Q m s)->(kas_place p k f l r).kasWp cmp Q s
 |0,l,r,h,g,j,a,c,q=>q l ⋯ a λi z=>c i ⋯
 |f+1,l,r,h,g,j,a,c,q=>by
  unfold kas_place;split
  ·exact q l (by grind) a λi z=>c i ⋯
  ·rename_i o
   refine hc _ _ _ (P.lt hN _) (P.lt hN _) ?_
   cases e:b (p.getD k 0) (p.getD ((l+r) / 2) 0) with
   |true=>
    simp only[if_true];refine oH P d f l _ (by grind) ⋯ (by omega) a (λi n t=>?_) q;cases e2:b (p.getD k 0) (p.getD i 0) with
    |true=>rfl
    |false=>
     have:=O.tr (d ((l+r) / 2) i n t) e2;rw[e] at this;nofun
   |false=>
    simp only[SW,if_false];exact oH P d f _ r ⋯ (by omega) ⋯ (λi z=>O.tr (d i ((l+r) / 2) (by omega) ⋯) e) c q
omit hN hc in
theorem zv {p:Array Nat}{k m:Nat}(r:k<p.size)(l:Srt b p k)(t:m<=k)(a: ∀i,i<m->b (p.getD k 0) (p.getD i 0)=Pa)(c: ∀i,m<=i->i<k->b (p.getD k 0) (p.getD i 0)=S1):Srt b (bubble p k (k-m)) (k+1):=by
 have g: ∀j,(bubble p k (k-m)).getD j 0=if j=m then p.getD k 0 else if m<j/\j<=k then p.getD (j-1) 0 else p.getD j 0:=λj=>by
  have:=getElem?_bubble r (k-m) (by simp) j;rw[show k- (k-m)=m by lia] at this
  by_cases h:j=m
  ·rw[if_pos h] at this⊢;exact Ly this
  ·rw[if_neg h] at this⊢
   by_cases q:m<j/\j<=k
   ·nofun
   ·rw[if_neg q] at this⊢;exact Ly this
 intro i j n s;rw[g,g]
 by_cases o:j=m
 ·rw[if_pos o]
  by_cases f:i=m
  ·rw[if_pos f];exact O.rf _
  ·rw[if_neg f,if_neg ⋯];exact a i ⋯
 ·rw[if_neg o]
  by_cases f:i=m
  ·rw[if_pos f,if_pos (by omega)];exact O.as (c _ ⋯ (by grind))
  ·rw[if_neg f]
   by_cases e:m<j/\j<=k
   ·rw[if_pos e]
    by_cases d:m<i/\i<=k
    ·rw[if_pos d];exact l _ _ (by omega) (by omega)
    ·rw[if_neg d];exact l _ _ (by grind) ⋯
   ·rw[if_neg e,if_neg ⋯];exact l _ _ n ⋯
theorem Hs: ∀(f:Nat) (p:Array Nat) (k:Nat),Pm N p->1<=k->k+f=N->Srt b p k->(∀a,Pm N a->Srt b a N->Q a s)->(kas_bin f p k).kasWp cmp Q s
 |0,p,k,P,h,e,c,q=>q p P (by nofun)
 |f+1,p,k,P,h,e,c,q=>by
  unfold kas_bin;rw[W1];have hz:=P.size;refine oH O hN hc P c k 0 k (Ur _) (SB _) (by simp) (λi z=>absurd z (by simp)) (λi n d=>absurd d ⋯) λm l g j=>?_
  exact Hs f _ (k+1) ⟨(bubble_perm _ _ _).trans P.perm⟩ (by simp) ⋯ (zv O ⋯ c l g j) q
theorem oy(q: ∀p,Pm N p->Srt b p N->Q p s):(jbh N).kasWp cmp Q s:=by
 unfold jbh;rw[W1];refine FY O hN hc ⟨Array.Perm.refl _⟩ λm a P e d c=>?_
 dsimp only;split
 ·exact Hs O hN hc _ a _ P (by nofun) (by nofun) (by rw[show max m 1=m by simp_all];exact c) q
 ·have:m=N:=by lia
  subst this;exact q a P c
end
open PySem PySem.W PySem.Calls PyProof.Rows
section
variable {A:Tr}
theorem pG{us:List Sw}{P:PySem.Fin->Sx->Prop}(k:s.heap.get? a=p5 (Wq "list" us.toArray n))(hz:us.length<64)
 (l:us.length<2->P (.done (.ret .none)) {s with heap:=XC s.heap a us us.toArray})
 (d:2<=us.length-> ∀g:Heap,(∀c o,c≠a->s.heap.get? c=p5 o->g.get? c=p5 o)->SL (model prog w) A (keyKind' us.toArray) (λκ t=>t={s with heap:=g}/\
   (jbh us.length).kasWp (jaf prog w A κ us) (λp t'=>t'=t/\P (.done (.ret .none)) {s with heap:=XC s.heap a us (UJ (p.toList.map λi=>us.getD i Tn))}) t) (λ_ _=>False) {s with heap:=g}):
 SL (model prog w) A (Vc.«list.sort» ⟨[.ref a],[]⟩) P E s:=by
 have R:a<s.heap.objs.size:=SH k;have C:us.toArray.size<=sizeLine:=by grind[T8]
 obtain⟨D,v⟩: ∃c,(s.heap.update a (Vv λ_=> #[])).get? a=p5 (Wq "list" #[] c):=⟨_,get?_update_seq k (λ_=> #[])⟩
 have h:(((s.heap.update a (Vv λ_=> #[])).push (Wq "tuple" us.toArray 0)).push (Wq "list" #[] 0)).get? a=p5 (Wq "list" #[] D):=Sy _ (Sy _ v);have H: ∀c o,c≠a->s.heap.get? c=p5 o->(((s.heap.update a (Vv λ_=> #[])).push (Wq "tuple" us.toArray 0)).push (Wq "list" #[] 0)).get? c=p5 o:=λc o N e=>
  Sy _ (Sy _ (by grind[Heap.get?_update_ne]))
 rw[list_sort_plain];refine Ss (listItems_at k rfl (Ss (jap k rfl ?_ C (Ur _))));refine Ss (jcc v rfl (Ss (wpAny_newTuple ?_ (show us.length<=_ by omega))));refine Ss (jaq (TM ?_) (Ur _));show SL (model prog w) A _ P E {s with heap:=((s.heap.update a (Vv λ_=> #[])).push (Wq "tuple" us.toArray 0)).push (Wq "list" #[] 0)};dsimp only
 by_cases j:us.toArray.size<2
 ·rw[if_pos j,if_pos j];refine Ss (Sv ?_);rw[StateT.run_pure];refine Ss (Sv ?_);dsimp only;have S:Array.map (λx=>x.2) (us.toArray.zip us.toArray)=us.toArray:=by
   grind
  refine Ss (jcc h rfl (Ss (jap h rfl ?_ (Ur _) ?_)))
  ·simp only[bne_self_eq_false,SW,if_false];refine Sv ?_
   have:=l (by omega);show P _ {s with heap:=XC s.heap a us (Array.map (λx=>x.2) (us.toArray.zip us.toArray))};lia
  lia
 ·rw[if_neg j,if_neg j];have f:2<=us.length:=by nofun
  refine Ss (Tv (d f _ H) (λκ t ⟨L,I⟩=>?_) λ_ _ x=>x.elim)
  subst L;refine Ss (Tv (kat_run (ks:=us) (vs:=us) (G:=λp t'=>t'=_/\P (.done (.ret .none)) {s with heap:=XC s.heap a us (UJ (p.toList.map λi=>us.getD i Tn))})
   (Q:=λst t'=>t'=_/\failedOf st=Sr/\ ∃p:Array Nat,p.size=us.length/\(arrOf st).map (·.2)=UJ (p.toList.map λi=>us.getD i Tn)/\P (.done (.ret .none)) {s with heap:=XC s.heap a us (UJ (p.toList.map λi=>us.getD i Tn))})
   rfl f hz (λp st t' z K F q=>⟨q.1,F,p,z,kat_snds rfl K,q.2⟩) I) (λr t' B=>?_) λ_ _ x=>x)
  obtain⟨u,st⟩:=r;obtain⟨y,m,p,O,b,J⟩:=B;subst y;dsimp only at m b⊢;rw[b,m];have M:(UJ (p.toList.map λi=>us.getD i Tn)).size<=sizeLine:=by nofun
  refine Ss (jcc h rfl (Ss (jap h rfl ?_ (Ur _) (jbi M))));simp only[bne_self_eq_false,SW,if_false];exact Sv J
theorem yZ{o:Obj}{us:List Sw}(i:T="list"\/T="tuple")(v:s.heap.get? l=p5 o)(x:o.cls=.type T)(m:o.data=.seq us.toArray n)(hz:us.length<64)
 (q: ∀g:Heap,(∀b u,s.heap.get? b=p5 u->g.get? b=p5 u)->s.heap.objs.size<=g.objs.size->Q us {s with heap:=g}):SL (model prog w) A (collect (.ref l)) Q E s:=by
 have z:us.toArray.size<=sizeLine:=by grind[T8]
 have d:(s.heap.push {cls:=.type "list",data:=.seq ([]:List Sw).toArray}).get? s.heap.objs.size=p5 {cls:=.type "list",data:=.seq #[] 0}:=SC _ rfl;have p:=Ts (Vv (·++us.toArray)) d rfl
 have a:SL (model prog w) A (do
  match (<-load s.heap.objs.size).data with
   |Data.seq xs _=>pure xs.toList
   |_=>U2 "internal:collect") Q E {s with heap:=(s.heap.push {cls:=.type "list",data:=.seq ([]:List Sw).toArray}).update s.heap.objs.size (Vv (·++us.toArray))}:=by
  refine Ss (jcM p (Sv ?_));show Q ((#[]:Array Sw)++us.toArray).toList _;rw[show((#[]:Array Sw)++us.toArray).toList=us by simp];refine q _ (λb u e=>(Uy _ _ (Ux (SH e))).trans (Sy _ e)) ?_
  simp
 unfold collect;refine Ss (Z0 (U3 ZL ?_));rw[UT ZM _];show SL _ A.in1 (jbf []>>=λr=>ZW (.builtin "list.__iadd__" ⟨[r,.ref l],[]⟩)) _ _ s;refine Ss (T6 (Sv ⟨YY Xh _,U3 jbj ?_⟩));rw[UT Xh _];show SL _ A.in1 (Yf (.ref s.heap.objs.size) (.ref l) (.ref s.heap.objs.size)) _ _ _;have ext:=wpAny_extend_seq (prog:=prog) (w:=w) (A:=A) (hsz:=z) (R:=λr t=>r=.ok (.ret (.ref s.heap.objs.size))/\t={s with heap:=(s.heap.push {cls:=.type "list",data:=.seq ([]:List Sw).toArray}).update s.heap.objs.size (Vv (·++us.toArray))})
  (s:={s with heap:=s.heap.push {cls:=.type "list",data:=.seq ([]:List Sw).toArray}}) _ l (.ref s.heap.objs.size) 0 i d (Sy _ v) x m ⟨rfl,rfl⟩
 refine Tv ext (λfin t h=>?_) (λe t h=>absurd h.1 (by simp));cases fin with
 |done f=>
  obtain⟨j,rfl⟩:=h;cases j;exact a
 |again c=>
  refine⟨h.1,Vo h.2 λr u k=>?_⟩;obtain⟨rfl,rfl⟩:=k;exact a
theorem tM{o:Obj}{us:List Sw}{G:List Nat->Prop}(H:T="list"\/T="tuple")(J:s.heap.get? l=p5 o)(C:o.cls=.type T)(B:o.data=.seq us.toArray n)(hz:us.length<64)
 (q:us.length<2->G (Su us.length))
 (j:2<=us.length-> ∀g:Heap,(∀c o,s.heap.get? c=p5 o->g.get? c=p5 o)->SL (model prog w) A.in1.in1 (keyKind' us.toArray) (λκ t=>t={s with heap:=g}/\
   (jbh us.length).kasWp (jaf prog w A.in1.in1 κ us) (λp t'=>t'=t/\G p.toList) t) (λ_ _=>False) {s with heap:=g})
 (fin: ∀(g:Heap) (a e:Nat) (b:List Nat),(∀c o,s.heap.get? c=p5 o->g.get? c=p5 o)->s.heap.objs.size<=a->G b->g.get? a=p5 (Wq "list" (UJ (b.map λi=>us.getD i Tn)) e)->Q (.ref a) {s with heap:=g}):
 SL (model prog w) A (call (.builtin "sorted") [.ref l]) Q E s:=by
 refine YB kind_sorted plain_sorted entry_sorted (args_sorted1 _) ?_
 unfold Vc.«sorted»;refine Ss (m:=checkCount "sorted" 1 1 _) (Sv (Ss (yZ H J C B hz λg z I=>?_)));refine Ss (jaq ?_ (by rw[T8];grind));have r:(g.push (Wq "list" us.toArray 0)).get? g.objs.size=p5 (Wq "list" us.toArray 0):=SC _ rfl;show SL _ _ _ _ _ {s with heap:=g.push (Wq "list" us.toArray 0)};have d: ∀b:List Nat,G b->Q (.ref g.objs.size) {s with heap:=XC (g.push (Wq "list" us.toArray 0)) g.objs.size us (UJ (b.map λi=>us.getD i Tn))}:=λb F=>by
  obtain⟨e,K⟩:=sortedHeap_at (out:=UJ (b.map λi=>us.getD i Tn)) r;refine fin _ g.objs.size e b (λc u k=>?_) I F K;have lt:=SH (z c u k);grind[sortedHeap_old,size_push',Sy]
 refine Ss (TM (TU slot_list_sort ⟨_,r,rfl⟩ entry_list_sort (pG (P:=λf t=> ∃v,f=.done (.ret v)/\SL (model prog w) A.in1 (pure (jdf (.ret (Tc g.objs.size)))) (λf t=> ∃v,f=.done (.ret v)/\Q v t) E t) r hz (λh=>?_) (λh g' y=>?_)) (args_list_sort _)))
 ·have e:=d (Su us.length) (q h)
  rw[show(Su us.length).map (λi=>us.getD i Tn)=us from Wz λi=>by
   grind] at e
  grind[Sv]
 ·refine Tv (j h g' λc u k=>y c u (S7 (SH (z c u k))) (Sy _ (z c u k))) (λκ t ⟨D,L⟩=>⟨D,?_⟩) λ_ _ x=>x
  grind[kat_ask_eq,kas_wp_mono,Sv]
end
open PySem PySem.W PySem.Spec PyProof.Rows
def aS:List Int->List Int->Bool
 |_,[]=>Pa
 | [],_::_=>S1
 |x::xs,y::ys=>if x=y then aS xs ys else decide (x<y)
def N3(x y:Int):Bool:=Oo (x<y)
structure Lt {α:Type}(lt:α->α->Bool):Prop where
 tr: ∀ {a b c:α},lt b a=Pa->lt c b=Pa->lt c a=Pa
 as: ∀ {a b:α},lt a b=S1->lt b a=Pa
 eq: ∀ {a b:α},lt a b=Pa->lt b a=Pa->a=b
theorem PZ:Lt N3:=⟨λa b=>by simp only[N3,decide_eq_false_iff_not] at*;lia,λh=>by simp only[N3,decide_eq_false_iff_not,vu] at*;omega,λa b=>by simp only[N3,decide_eq_false_iff_not] at*;grind⟩
theorem tH: ∀ {a b:List Int},aS a b=S1->aS b a=Pa
 | [],[],h=>by rfl
 |x::xs,[],h=>by simp[aS] at h
 | [],y::ys,h=>by rfl
 |x::xs,y::ys,h=>by
  unfold aS at h⊢
  by_cases e:x=y
  ·subst e;simp only[if_true] at h⊢;exact tH h
  ·rw[if_neg e] at h;grind
theorem vN: ∀ {a b:List Int},aS a b=Pa->aS b a=Pa->a=b
 | [],[],_,_=>rfl
 |x::xs,[],_,h=>by simp[aS] at h
 | [],y::ys,h,_=>by simp[aS] at h
 |x::xs,y::ys,h,h'=>by
  unfold aS at h h'
  by_cases e:x=y
  ·subst e;simp only[if_true] at h h';rw[vN h h']
  lia
theorem ud: ∀ {a b c:List Int},aS b a=Pa->aS c b=Pa->aS c a=Pa
 | [],_,_,_,_=>by simp[aS]
 |x::xs,[],_,h,_=>by simp[aS] at h
 |x::xs,y::ys,[],_,h=>by simp[aS] at h
 |x::xs,y::ys,z::zs,e,d=>by
  unfold aS at e d⊢
  by_cases f:y=x
  ·subst f;simp only[if_true] at e
   by_cases g:z=y
   ·subst g;simp only[if_true] at d⊢;exact ud e d
   nofun
  grind
theorem n6:Lt aS:=⟨ud,tH,vN⟩
def zw {α:Type}(lt:α->α->Bool)(x:α):List α->List α
 | []=>[x]
 |y::r=>if lt x y=S1 then x::y::r else y::zw lt x r
def aU {α:Type}(lt:α->α->Bool):List α->List α
 | []=>[]
 |x::r=>zw lt x (aU lt r)
section
variable {α:Type}
theorem mi(x:α): ∀l:List α,(zw lt x l).Perm (x::l)
 | []=>.refl _
 |y::r=>by
  unfold zw;split
  ·rfl
  ·exact((mi x r).cons y).trans (.swap _ _ _)
theorem a8: ∀l:List α,(aU lt l).Perm l
 | []=>.refl _
 |x::r=>(mi x _).trans ((a8 r).cons x)
theorem AN(O:Lt lt)(x:α): ∀ {l:List α},l.Pairwise (λa b=>lt b a=Pa)->(zw lt x l).Pairwise (λa b=>lt b a=Pa)
 | [],_=>by simp[zw]
 |y::r,h=>by
  obtain⟨d,c⟩:=UN.mp h;unfold zw;split
  ·rename_i e
   refine UN.mpr ⟨λz hz=>?_,h⟩;rcases S6.mp hz with rfl|hz
   ·exact O.as e
   ·exact O.tr (O.as e) (d z hz)
  ·rename_i e
   refine UN.mpr ⟨λz hz=>?_,AN O x c⟩;grind[mi]
theorem fB(O:Lt lt): ∀l:List α,(aU lt l).Pairwise (λa b=>lt b a=Pa)
 | []=>.nil
 |x::r=>AN O x (fB O r)
theorem mP(O:Lt lt){l c:List α}(p:c.Perm l)(s:c.Pairwise (λa b=>lt b a=Pa)):c=aU lt l:=
 YZ (λa b _ _ e d=>O.eq d e) s (fB O l) (p.trans (a8 l).symm)
theorem hX(a:List α)(d:α):(Su a.length).map (λi=>a.getD i d)=a:=Wz λi=>by
 by_cases b:i<a.length
 ·simp[b]
 ·simp[b]
theorem gd(O:Lt lt){a:List α}{p:Array Nat}(P:Pm a.length p)(S:Srt (λi j=>lt (a.getD i d) (a.getD j d)) p a.length):p.toList.map (λi=>a.getD i d)=aU lt a:=by
 refine mP O ?_ ?_
 ·have c:p.toList.Perm (Su a.length):=by simpa using (Array.perm_iff_toList_perm.mp P.perm)
  have b:=c.map (λi=>a.getD i d);rw[hX] at b;exact b
 ·rw[Ug,Ui];intro i j f l m;have hz:=P.size;have e:=S i j ⋯ (by nofun);have g: ∀k (h:k<p.toList.length),p.getD k 0=p.toList[k]:=λk h=>by
   have:k<p.size:=by omega
   simp[jav,this]
  rw[g i f,g j l] at e;exact e
theorem AI(O:Lt lt)(f:Nat->α):Od (λi j=>lt (f i) (f j)):=⟨λb a=>O.tr b a,λh=>O.as h⟩
end
def zA:D->Option (List Int)
 | .tup ds=>match cq ds with
   |some (x::r)=>p5 (x::r)
   |_=>Sr
 |_=>Sr
def kc:List D->Option (List (List Int))
 | []=>p5 []
 |d::r=>(zA d).bind λk=>(kc r).map (k:: ·)
def a7(k:List Int):D:=.tup (k.map D.int)
def jD(ds:List D):Option (List D):=if ds.length<64 then match cq ds with
 |some ns=>p5 ((aU N3 ns).map D.int)
 |none=>(kc ds).map λks=>(aU aS ks).map a7 else Sr
theorem iS(ns:List Int):cq (ns.map D.int)=p5 ns:=by
 induction ns with
 |nil=>rfl
 |cons n ns a=>show(cq (ns.map D.int)).map (n:: ·)=_;nofun
theorem KF(h:zA d=p5 k):d=a7 k/\k≠[]:=by
 unfold zA at h;split at h
 ·split at h
  ·rename_i e;cases h;rw[dv e];exact⟨rfl,by simp⟩
  nofun
 nofun
theorem J6(h:k≠[]):zA (a7 k)=p5 k:=by
 unfold zA a7;dsimp only;rw[iS];cases k with
 |nil=>exact absurd rfl h
 |cons x r=>rfl
theorem qB: ∀ {ds:List D} {ks:List (List Int)},kc ds=p5 ks->ds=ks.map a7/\ ∀k∈ks,k≠[]
 | [],_,h=>by cases h;simp
 |d::r,ks,h=>by
  unfold kc at h;cases e1:zA d with
  |none=>nofun
  |some k=>
   rw[e1] at h;cases e2:kc r with
   |none=>nofun
   |some l=>
    rw[e2] at h;cases h;obtain⟨b,a⟩:=KF e1;obtain⟨c,e⟩:=qB e2;nofun
theorem xk: ∀ {ks:List (List Int)},(∀k∈ks,k≠[])->kc (ks.map a7)=p5 ks
 | [],_=>rfl
 |k::r,h=>by
  show(zA (a7 k)).bind (λa=>(kc (r.map a7)).map (a:: ·))=_;rw[J6 (h k (by simp)),xk λz hz=>h z (by simp[hz])];rfl
theorem DQ {k:List Int}{ks:List (List Int)}:cq ((k::ks).map a7)=none:=rfl
theorem fz {α:Type}{lt:α->α->Bool}{l:List α}(h:l.length<2):aU lt l=l:=by
 match l,h with
 | [],_=>rfl
 | [_],_=>rfl
theorem i7 {xs:List V}{us:List Sw}(r:cc xs us)(i:Nat):b6 (xs.getD i .non) (us.getD i Tn):=by
 cases e:xs[i]? with
 |none=>
  have c:=r.length;have:us[i]? =none:=by nofun
  simp[VW,e,this];rfl
 |some x=>
  obtain⟨u,b,a⟩:=r.get e;nofun
theorem je {xs:List V}{us:List Sw}(r:cc xs us): ∀a:List Nat,cc (a.map λi=>xs.getD i .non) (a.map λi=>us.getD i Tn)
 | []=>.nil
 |i::l=>.cons (i7 r i) (je r l)
theorem si {K:SA}{xs:List V}{ds:List D}(r:Reps K F xs ds)(i:Nat):Rep K F (xs.getD i .non) (ds.getD i .non):=by
 cases e:ds[i]? with
 |none=>
  have c:=r.length;have:xs[i]? =none:=by nofun
  simp[VW,e,this];exact .non
 |some x=>
  obtain⟨u,b,a⟩:=r.get e;nofun
theorem mr {K:SA}{xs:List V}{ds:List D}(r:Reps K F xs ds): ∀a:List Nat,Reps K F (a.map λi=>xs.getD i .non) (a.map λi=>ds.getD i .non)
 | []=>.nil
 |i::l=>.cons (si r i) (mr r l)
def o7:List Sw->List Int->Prop:=Paired λu i=> ∃t,u=W7 i t
theorem tZ {K:SA}: ∀ {xs:List V} {us:List Sw} {ns:List Int},cc xs us->Reps K F xs (ns.map D.int)->o7 us ns
 |_,_,[],r,p=>by cases p;cases r;exact .nil
 |_,_,n::ns,r,p=>by
  cases p with
  |cons c b=>cases r with
   |cons d a=>cases c;exact .cons d (tZ a b)
theorem wV: ∀ {us:List Sw} {ns:List Int} {i:Nat} {u:Sw},o7 us ns->us[i]? =p5 u-> ∃n,ns[i]? =p5 n/\ ∃t,u=W7 n t
 |_,_,_,_,.nil,e=>by simp at e
 |_,_,0,_,.cons h _,e=>by nofun
 |_,_,i+1,u,.cons _ r,e=>by
  obtain⟨n,b,a⟩:=wV (i:=i) (u:=u) r (by simpa using e);nofun
section
theorem vM {us c:List Sw}{ns a:List Int}(i:Nat)(h:o7 us ns)(k:o7 c a)(e:fin=Oo (ns.length<a.length))(q:Q (aS ns a) s):KatLex prog w A b fin Q (us.zip c) i s:=by
 subst e
 induction h generalizing c a i with
 |nil=>
  cases k with
  |nil=>exact kat_nil q
  |cons _ _=>exact kat_nil (by simpa [aS] using q)
 |cons g p j=>
  cases k with
  |nil=>rw[List.zip_nil_right];exact kat_nil (by simpa [aS] using q)
  |cons f l=>
   rename_i _ n _ ns _ m _ a;obtain⟨t,rfl⟩:=g
   obtain⟨t',rfl⟩:=f;rw[jau];refine kat_cons (jbw (kat_go (λo=>?_) λo=>?_))
   ·have:n=m:=by lia
    subst this;refine kat_yes ?_
    have:=j (i+1) l (by simpa [aS] using q);nofun
   ·have:n≠m:=by lia
    have d:Q (Oo (n<m)) s:=by grind[aS]
    refine kat_no ?_
    cases (b&&i==0) with
    |true=>exact oneLt_int d
    |false=>exact kat_one _ _ (lt_int d)
end
theorem wZ {X:Cx}:cO X (.builtin "sorted") (λxs H Q=> ∃a ys ds es,xs=[.ref a]/\(SqL X.K H a ys\/SqT X.K H a ys)/\Reps X.K H ys ds/\jD ds=p5 es/\
 ∀(l:Addr) (y:List Nat),H l=Sr->y.length=ds.length->y.map (λi=>ds.getD i .non)=es->Q (.ref l) (aW H l (.lst (y.map λi=>ys.getD i .non)))):=by
 intro aa s σ H xs us Q I r h;obtain⟨a,ys,ds,es,rfl,ST,Y,d,q⟩:=h;obtain⟨u,rfl,rx⟩:=eQ r;cases rx;obtain⟨c,T,o,n,V,hT,E,J,F⟩: ∃(c:List Sw) (T:String) (o:Obj) (n:Nat),cc ys c/\(T="list"\/T="tuple")/\s.heap.get? a=some o/\o.cls=.type T/\o.data=.seq c.toArray n:=by
  rcases ST with hq|hq
  ·obtain⟨c,O,pl,hz⟩:=I.list hq;obtain⟨o,E,J,n,F⟩:=pl.isList;exact⟨c,"list",o,n,O,.inl rfl,E,J,F⟩
  ·obtain⟨c,O,pl,hz⟩:=I.tuple hq;obtain⟨o,E,J,n,F⟩:=pl;exact⟨c,"tuple",o,n,O,.inr rfl,E,J,F⟩
 have l1:=V.length;have l2:=Y.length;have W:ds.length<64:=by
  unfold jD at d;nofun
 unfold jD at d;rw[if_pos W] at d;refine tM (G:=λy=>y.length=ds.length/\y.map (λi=>ds.getD i .non)=es) hT E J F (by nofun) (λfew=>⟨by nofun,?_⟩) (λh2 g R=>?_) (λg p e y R hp hG U=>?_)
 ·rw[show c.length=ds.length by nofun,hX];cases e1:cq ds with
  |some ns=>
   rw[e1] at d;cases d;have:=dv e1;grind[fz]
  |none=>
   rw[e1] at d;cases B:kc ds with
   |none=>nofun
   |some ks=>
    rw[B] at d;cases d;obtain⟨h3,_⟩:=qB B;grind[fz]
 ·cases e1:cq ds with
  |some ns=>
   rw[e1] at d;cases d;have e0:=dv e1;subst e0;have hv:=tZ V Y;have M:c.length=ns.length:=by nofun
   have L: ∀i,i<ns.length-> ∃t,c.getD i Tn=W7 (ns.getD i 0) t:=λi f=>by
    have B:c[i]? =p5 c[i]:=SJ (by nofun);obtain⟨m,e3,t,e4⟩:=wV hv B;nofun
   refine kas_kind (T:=.type "int") h2 (λv hv'=>?_) (by rfl) (by rfl) ⟨rfl,?_⟩
   ·obtain⟨i,f,rfl⟩:=Vn hv';obtain⟨t,e⟩:=L i (by grind);have:c[i]=c.getD i Value.none:=by simp[VW,SJ f]
    rw[this,e];exact jbH
   ·rw[M];refine oy (b:=λi j=>N3 (ns.getD i 0) (ns.getD j 0)) (AI PZ _) ⋯ (λi j C f hj hC=>?_) λp P S=>⟨rfl,?_,?_⟩
    ·obtain⟨t,e⟩:=L i f;obtain⟨t',e'⟩:=L j hj;unfold jaf;rw[e,e'];exact kat_lt_int hC
    ·rw[S8,P.size];simp
    ·have:=congrArg (jbk D.int) (gd PZ P S);rw[<-this,S4];refine T9 λi f=>?_
     have:i<ns.length:=by
      have:=P.perm.mem_iff.mp (VG.mp f);nofun
     nofun
  |none=>
   rw[e1] at d;cases B:kc ds with
   |none=>nofun
   |some ks=>
    rw[B] at d;cases d;obtain⟨h3,h4⟩:=qB B;subst h3;have M:c.length=ks.length:=by nofun
    have L: ∀i,i<ks.length-> ∃(b:Addr) (o:Obj) (A:List Sw) (n:Nat),c.getD i Tn=.ref b/\s.heap.get? b=p5 o/\o.cls=.type "tuple"/\o.data=.seq A.toArray n/\o7 A (ks.getD i []):=λi f=>by
     have r1:=i7 V i;have Z:=si Y i;have e3:(ks.map a7).getD i .non=.tup ((ks.getD i []).map D.int):=by grind[a7]
     rw[e3] at Z;generalize hx:ys.getD i .non=x at r1 Z;cases Z with
     |tup q1 q2=>
      obtain⟨A,O,⟨o,E,J,n,F⟩,_⟩:=I.tuple (SqT.of q1);exact⟨_,o,A,n,r1,E,J,F,tZ O q2⟩
    have kt: ∀(l:List Sw) (z:List (List Int)),l.length=z.length->(∀i,i<z.length-> ∃(b:Addr) (o:Obj) (A:List Sw) (n:Nat),l.getD i Tn=.ref b/\s.heap.get? b=p5 o/\o.cls=.type "tuple"/\o.data=.seq A.toArray n/\o7 A (z.getD i []))->(∀k∈z,k≠[])->
     ∃N,KatTups g l N/\N.length=l.length/\ ∀v∈N,∃i t,v=W7 i t:=by
     intro l
     induction l with
     |nil=>intro z _ _ _;exact⟨[],.nil,rfl,λ_ h=>nomatch h⟩
     |cons v l ih=>
      intro z M U hk;cases z with
      |nil=>cases M
      |cons m z=>
       obtain⟨N,f1,f2,f3⟩:=ih z (by nofun) (λi f=>by simpa using U (i+1) (by nofun)) λk hk'=>hk k (by nofun)
       obtain⟨b,o,A,n,g1,g2,g3,g4,g5⟩:=U 0 (by simp);simp[VW] at g1 g5;subst g1;cases m with
       |nil=>nofun
       |cons x xs=>
        cases g5 with
        |cons y1 y2=>
         obtain⟨t,rfl⟩:=y1;refine⟨_,jbl (R _ _ g2) g3 g4 (by simp;rfl) f1,by simp[f2],λv hv=>?_⟩;rcases S6.mp hv with rfl|hv
         ·simp
         nofun
    obtain⟨N,f1,f2,f3⟩:=kt c ks M L h4;refine kat_kind (T:=.type "int") f1 ⋯ (λv hv=>?_) (by rfl) ⟨rfl,?_⟩
    ·obtain⟨i,t,rfl⟩:=f3 v hv;exact jbH
    ·rw[M];refine oy (b:=λi j=>aS (ks.getD i []) (ks.getD j [])) (AI n6 _) (by grind) (λi j C f hj hC=>?_) λp P S=>⟨rfl,?_,?_⟩
     ·obtain⟨b1,o1,ts1,n1,x1,x2,x3,x4,x5⟩:=L i f;obtain⟨b2,o2,ts2,n2,y1,y2,y3,y4,y5⟩:=L j hj;unfold jaf;rw[x1,y1];refine kat_lt (R _ _ x2) x4 (R _ _ y2) y4 ?_
      refine vM 0 x5 y5 ?_ hC;have z1:=UF x5;have z2:=UF y5;grind
     ·rw[S8,P.size];simp
     ·have:=congrArg (jbk a7) (gd n6 P S);dsimp only;rw[<-this,S4];refine T9 λi f=>?_
      have:i<ks.length:=by
       have:=P.perm.mem_iff.mp (VG.mp f);nofun
      nofun
 ·refine⟨.ref p,_,I.laid (t':=s.toks) R hp (show ci X.prog X.w _ g _ (.lst (y.map λi=>ys.getD i .non)) from⟨?_,_,e,je V y,U⟩),rfl,q _ y (I.hok.fresh hp) hG.1 hG.2⟩;rw[SO,hG.1,T8];lia
def ou:List D->Option D
 | [.lst ds]=>(jD ds).map D.lst
 | [.tup ds]=>(jD ds).map D.lst
 |_=>Sr
theorem Cg {K:SA}:gR K .n (λxs H Q=> ∃a ys ds es,xs=[.ref a]/\(SqL K H a ys\/SqT K H a ys)/\Reps K H ys ds/\jD ds=p5 es/\
 ∀(l:Addr) (b:List Nat),H l=Sr->b.length=ds.length->b.map (λi=>ds.getD i .non)=es->Q (.ref l) (aW H l (.lst (b.map λi=>ys.getD i .non)))) ou:=by
 intro H hid vs ds d Q m h r q;unfold ou at h;split at h
 ·rename_i zs
  cases e:jD zs with
  |none=>nofun
  |some es=>
   rw[e] at h;cases h;obtain⟨x,rfl,k⟩:=ej.one r;obtain⟨a,xs,rfl,g,c⟩:=k.lst;refine⟨a,xs,zs,es,rfl,.inl g,c.mono (bU _ _),e,λl b f _ j=>q _ _ (aJ f _) (fH f (ab.refl _) ?_)⟩;rw[<-j];exact mr c b
 ·rename_i zs
  cases e:jD zs with
  |none=>nofun
  |some es=>
   rw[e] at h;cases h;obtain⟨x,rfl,k⟩:=ej.one r;obtain⟨a,xs,rfl,_,g,c⟩:=k.tup;refine⟨a,xs,zs,es,rfl,.inr g,c.mono (bU _ _),e,λl b f _ j=>q _ _ (aJ f _) (fH f (ab.refl _) ?_)⟩;rw[<-j];exact mr c b
 nofun
section
variable {prog:S9}{w:Tu}{A:Tr}{R:Zm->Sx->Prop}{s:Sx}{t1 t2 i1 i2:Expr}{ifs1 ifs2:List Expr}{it acc:Sw}
theorem JY:jbe (.ListComp elt [⟨t1,i1,ifs1,0⟩,⟨t2,i2,ifs2,0⟩] scope pos) 1 it acc env=(do
 YG i2.pos
 match <-Wa it with
 |none=>pure (.done .next)
 |some v=>
  VB t2 it v
  VY t2 env v
  let ok <-kx ifs2 env
  if ok=S1 then do(do let _ <-call (.builtin "list.append") [acc,<-eval elt env]);ZW (.compLoop (.ListComp elt [⟨t1,i1,ifs1,0⟩,⟨t2,i2,ifs2,0⟩] scope pos) 1 it acc env)
  else ZW (.compLoop (.ListComp elt [⟨t1,i1,ifs1,0⟩,⟨t2,i2,ifs2,0⟩] scope pos) 1 it acc env)):=by rfl
theorem Hb:jbe (.ListComp elt [⟨t1,i1,ifs1,0⟩,⟨t2,i2,ifs2,0⟩] scope pos) 0 it acc env=(do
 YG i1.pos
 match <-Wa it with
 |none=>pure (.done .next)
 |some v=>
  VB t1 it v
  VY t1 env v
  let ok <-kx ifs1 env
  if ok=S1 then do
   let x <-eval i2 env
   YG i2.pos
   let x <-TY i2 env x
   let _ <-runOwn (.compStart (.ListComp elt [⟨t1,i1,ifs1,0⟩,⟨t2,i2,ifs2,0⟩] scope pos) 1 (<-WZ [x] (YS x)) acc env) env
   ZW (.compLoop (.ListComp elt [⟨t1,i1,ifs1,0⟩,⟨t2,i2,ifs2,0⟩] scope pos) 0 it acc env)
  else ZW (.compLoop (.ListComp elt [⟨t1,i1,ifs1,0⟩,⟨t2,i2,ifs2,0⟩] scope pos) 0 it acc env)):=by rfl
abbrev Hr:=(Sx->Prop)->Sx->Prop
def Ah(prog:S9)(w:Tu)(A:Tr)(d:Expr)(acc:Sw)(c:Env):Hr:=λQ s=>
 SL (model prog w) A (eval d c) (λx b=>SL (model prog w) A (call (.builtin "list.append") [acc,x]) (λ_ a=>Q a) (λ_ _=>False) b) (λ_ _=>False) s
def vB(prog:S9)(w:Tu)(A:Tr)(e d:Expr)(acc:Sw)(b:Env):Hr:=λQ s=>
 SL (model prog w) A (eval d b) (λx c=>SL (model prog w) A (YS x) (λit a=>Vy (model prog w) A (.compStart e 1 it acc b) (λr s'=>match r with
  | .ok _=>Q s'
  | .error _=>False) a) (λ_ _=>False) c) (λ_ _=>False) s
def ER(prog:S9)(w:Tu)(A:Tr)(d:Code)(h:Expr)(g:List Expr)(it:Sw)(e:Env)(TA:Hr)(R:Zm->Sx->Prop):Prop:= ∀(I:Nat->Sx->Prop),
 (∀n s,I n s->SL (model prog w) A (Wa it) (λr a=>match r with
   |none=>R (.ok .next) a
   |some v=>SL (model prog w) A (VB h it v) (λ_ a=>SL (model prog w) A (VY h e v) (λ_ f=>
     SL (model prog w) A (kx g e) (λok b=>
      if ok=S1 then TA (λc=> ∃m,m<n/\I m c) b
      else∃m,m<n/\I m b) (λ_ _=>False) f) (λ_ _=>False) a) (λ_ _=>False) a) (λ_ _=>False) s)->
 ∀(n:Nat) (s:Sx),I n s->Vy (model prog w) A d R s
theorem FZ:ER prog w A (.compLoop (.ListComp elt [⟨t1,i1,ifs1,0⟩,⟨t2,i2,ifs2,0⟩] scope pos) 1 it acc env) t2 ifs2 it env (Ah prog w A elt acc env) R:=by
 intro I turn n s h;have no: ∀ {l:Sw->Sx->Prop} (x:Sw) (s:Sx),False->l x s:=λ_ _ z=>z.elim
 refine jbd rfl I (λn s m=>?_) n h;show SL _ A ((jbe (.ListComp elt [⟨t1,i1,ifs1,0⟩,⟨t2,i2,ifs2,0⟩] scope pos) 1 it acc env).onRaise (λx=>do jbE x env;ZC x)) _ _ s;refine jca ?_
 rw[JY];refine Ss (Vb (Ss (Tv (turn n s m) (λr f a=>?_) no)));cases r with
 |none=>exact Sv a
 |some v=>
  refine Ss (Tv a (λ_ f a=>Ss (Tv a (λ_ k c=>Ss (Tv c (λok g b=>?_) no)) no)) no);cases ok with
  |false=>exact Sv ⟨rfl,b⟩
  |true=>exact Ss (Ss (Tv b (λx i e=>Ss (Tv e (λ_ j d=>Sv (Sv ⟨rfl,d⟩)) no)) no))
theorem Co(g: ∀x,TY i2 env x=pure x):ER prog w A (.compLoop (.ListComp elt [⟨t1,i1,ifs1,0⟩,⟨t2,i2,ifs2,0⟩] scope pos) 0 it acc env) t1 ifs1 it env (vB prog w A (.ListComp elt [⟨t1,i1,ifs1,0⟩,⟨t2,i2,ifs2,0⟩] scope pos) i2 acc env) R:=by
 intro I turn n s h;have no: ∀ {q:Sw->Sx->Prop} (x:Sw) (s:Sx),False->q x s:=λ_ _ z=>z.elim
 refine jbd rfl I (λn s u=>?_) n h;show SL _ A ((jbe (.ListComp elt [⟨t1,i1,ifs1,0⟩,⟨t2,i2,ifs2,0⟩] scope pos) 0 it acc env).onRaise (λx=>do jbE x env;ZC x)) _ _ s;refine jca ?_
 rw[Hb];refine Ss (Vb (Ss (Tv (turn n s u) (λr j a=>?_) no)));cases r with
 |none=>exact Sv a
 |some v=>
  refine Ss (Tv a (λ_ j a=>Ss (Tv a (λ_ o c=>Ss (Tv c (λok k b=>?_) no)) no)) no);cases ok with
  |false=>exact Sv ⟨rfl,b⟩
  |true=>
   refine Ss (Tv b (λx l i=>Ss (Vb (Ss (YJ (g x) (Ss (TM (Tv i (λt m d=>?_) no))))))) no);refine Ss (wpAny_runOwn (Vo d λr s' p=>?_));cases r with
   |ok f=>exact Sv ⟨rfl,p⟩
   |error e=>nofun
end
def oo(g:FG)(p:FT)(A:FA)(a:aB):List D->Option (List D)
 | []=>p5 []
 |d::r=>(g d a).bind λρ1=>(p ρ1).bind λb=>if b=S1 then(A ρ1).bind λys=>(oo g p A a r).map (ys++ ·) else oo g p A a r
def QD(n:Nat)(ρ:aB):Prop:= ∀(i:Nat) (s:Sl),n<=i->ρ[i]? =p5 s->s=.no
def EX(Y:Cx)(c:Ct)(hid:bC)(e:Addr)(L W:Hp)(A:FA)(TA:Hr)(ρ1:aB):Prop:= ∀(f:List (Addr×Obj)) (s:Sx) (σ:St) (H:Hp) (xs:List V) (g zs:List D) (Q:Sx->Prop),Inv Y f σ H s->SR Y.K c hid ρ1 σ H->
 H e=p5 (.lst xs)->Reps Y.K (vw H hid) xs g->xs.length+zs.length<=SU->ab L H->ab W (vw H hid)->(∀i:Nat,Ow ρ1[i]? ->σ[i]? ≠p5 (p5 (.ref e)))->A ρ1=p5 zs->
 (∀(s':Sx) (a:St) (b:Hp) (d:List V),Inv Y f a b s'->SR Y.K c hid ρ1 a b->b e=p5 (.lst d)->Reps Y.K (vw b hid) d (g++zs)->ab L b->ab (vw H hid) (vw b hid)->(∀i:Nat,Ow ρ1[i]? ->a[i]? ≠p5 (p5 (.ref e)))->Q s')->TA Q s
section
variable {Y:Cx}{c:Ct}{g:FG}{p:FT}{A:FA}{TA:Hr}{code:Code}
structure CLG(Y:Cx)(aa:List (Addr×Obj))(c:Ct)(hid:bC)(ρ0:aB)(L W H3:Hp)(D0:Addr)(fp:List Addr)(tn:Nat->Heap->Prop)(g:FG)(p:FT)(A:FA)(ds ys ad0:List D)(n i:Nat)(xs:List V)(ad:List D)(σ':St)(H':Hp)(s':Sx):Prop where
 e:n=ds.length-i
 hi:i<=ds.length
 I:Inv Y aa σ' H' s'
 st:tn i s'.heap
 fr: ∀b∈fp,H' b=Sr
 sr:SR Y.K c hid ρ0 σ' H'
 sm:ab L H'
 ac:H' D0=p5 (.lst xs)
 rp:Reps Y.K (vw H' hid) xs ad
 w:ab W (vw H' hid)
 v:ab (vw H3 hid) (vw H' hid)
 na: ∀i:Nat,Ow ρ0[i]? ->σ'[i]? ≠p5 (p5 (.ref D0))
 go: ∃rest,oo g p A ρ0 (ds.drop i)=p5 rest/\ad++rest=ad0++ys
theorem xl(y:Y.calm=S1)(hxe:Y.xe=λ_ _=>False)(hT:gZ n0 g)(hg:vR Y c tg g)(hp:vX Y c ifs p) {E L W:Hp} {s4:Sx} {hid:bC} {ds ys ad0:List D} {xs0:List V}
 (hA: ∀d ρ1,g d ρ0=p5 ρ1->EX Y c hid D0 L W A TA ρ1)
 (hN:QD n0 ρ0) (I:Inv Y aa σ3 E s4) (sr:SR Y.K c hid ρ0 σ3 E) (hh:hid D0=S1) (na: ∀i:Nat,Ow ρ0[i]? ->σ3[i]? ≠p5 (p5 (.ref D0))) (ST:E D0=p5 (.lst xs0)) (rp0:Reps Y.K (vw E hid) xs0 ad0) (sm:ab L E) (wv:ab W (vw E hid)) (T:ox Y.prog Y.w Y.K tg J fp it tn) (st:tn 0 s4.heap) (hF: ∀b∈fp,ik Y aa E b)
 (io:N5 Y.K L W J ds) (hz:ad0.length+ys.length<=SU) (hc:oo g p A ρ0 ds=p5 ys)
 (hTP:ER Y.prog Y.w Y.A code tg ifs (.ref it) Y.env TA R)
 (hR: ∀(s':Sx) (f:St) (h:Hp) (xs:List V),Inv Y aa f h s'->SR Y.K c hid ρ0 f h->ab L h->h D0=p5 (.lst xs)->Reps Y.K (vw h hid) xs (ad0++ys)->ab (vw E hid) (vw h hid)->(∀i:Nat,Ow ρ0[i]? ->f[i]? ≠p5 (p5 (.ref D0)))->R (.ok .next) s'):
 Vy (model Y.prog Y.w) Y.A code R s4:=by
 have C: ∀ {h:Hp},(∀b∈fp,h b=Sr)-> ∀b∈fp,ik Y aa h b:=λ{h} hn b H=>⟨hn b H,(hF b H).2⟩
 refine hTP (λn s'=> ∃(i:Nat) (xs:List V) (ad:List D) (f:St) (h:Hp),CLG Y aa c hid ρ0 L W E D0 fp tn g p A ds ys ad0 n i xs ad f h s') ?_ ds.length s4
  ⟨0,xs0,ad0,σ3,E,by rfl,Ur _,I,st,λb H=>(hF b H).1,sr,sm,ST,rp0,wv,ab.refl _,na,ys,by simpa using hc,rfl⟩
 rintro n s5 ⟨i,xs,ad,v,P,rfl,hi,I5,st5,f5,Z,B,U,M,w5,v5,na5,k,a,F⟩;have wH:ab W P:=w5.trans (bU _ _)
 by_cases N:i<ds.length
 ·have hd:ds[i]? =p5 ds[i]:=SJ N;have e2:ds.drop i=ds[i]::ds.drop (i+1):=WP N;rw[e2] at a;unfold oo at a;obtain⟨go,yl⟩:=io.1 i ds[i] P hd B wH;refine bB (T.item Y rfl rfl rfl y i aa s5 v P (λ_ _=>False) I5 (C f5) st5 go) λr s6 l=>?_
  obtain⟨u,hr,h6⟩:=l;subst hr;refine bB h6 λ_ s7 l=>?_
  obtain⟨x,H7,I7,r7,y7,S,f7⟩:=l;obtain⟨q,rp⟩:=yl x H7 y7;have rx:=rp hid Z.tr w5;have I7':=I7.pinned (C f7) (T.obj _ _ S);cases e3:g ds[i] ρ0 with
  |none=>nofun
  |some ρ1=>
   rw[e3] at a;have a:(p ρ1).bind (λb=>if b=S1 then(A ρ1).bind λys=>(oo g p A ρ0 (ds.drop (i+1))).map (ys++ ·) else oo g p A ρ0 (ds.drop (i+1)))=p5 k:=a;obtain⟨tl1,tl2⟩:=hT _ _ _ e3;have fg: ∀ {f:St} {h:Hp},SR Y.K c hid ρ1 f h->SR Y.K c hid ρ0 f h:=λ{f h} z=>z.forget tl1 λj s e=>by
    by_cases hj:j<n0
    ·exact .inr ((tl2 j hj).trans e)
    ·exact .inl (hN j s (by nofun) e)
   have O: ∀j:Nat,Ow ρ0[j]? ->Ow ρ1[j]? :=λj o=>by
    by_cases hj:j<n0
    ·nofun
    ·exfalso;cases e:ρ0[j]? with
     |none=>rw[e] at o;exact o
     |some s=>have:=hN j s (by nofun) e;subst this;rw[e] at o;exact o
   have t: ∀ {f:St} {h:Hp} {s':Sx},Inv Y (aa++mJ fp s7.heap) f h s'->tn (i+1) s'.heap/\ ∀b∈fp,h b=none:=λ{f h s'} J'=>by
    refine⟨T.keep _ _ _ S λb H o e=>(J'.pin (b,o) (Tt _ (Tt _ (eE H e)))).1,λb H=>?_⟩;obtain⟨o,e,_⟩:=T.obj _ _ S b H;exact(J'.pin (b,o) (Tt _ (Tt _ (eE H e)))).2.1
   refine bB (hxe▸hg hid ρ0 ds[i] _ s7 v H7 x u (λf h=>h=H7/\SR Y.K c hid ρ1 f H7/\OwK ρ0 ρ1 v f) I7' r7 ⟨Z.ext q,rx,ρ1,e3,λf z o=>⟨rfl,z,o⟩⟩) λ_ s8 l=>?_
   obtain⟨G,H8,I8,e8,q8,o8⟩:=l;subst e8;have na1: ∀j:Nat,Ow ρ1[j]? ->G[j]? ≠p5 (p5 (.ref D0)):=λj o=>by
    rw[(o8 j o).2];exact na5 j (o8 j o).1
   cases e4:p ρ1 with
   |none=>nofun
   |some b=>
    rw[e4] at a;have a:(if b=S1 then(A ρ1).bind λys=>(oo g p A ρ0 (ds.drop (i+1))).map (ys++ ·) else oo g p A ρ0 (ds.drop (i+1)))=p5 k:=a;refine bB (hxe▸hp hid ρ1 _ s8 G H8 (λb' h=>b'=b/\ab H8 h) I8 ⟨q8,b,e4,λh s'=>⟨rfl,s'⟩⟩) λok s9 l=>?_
    obtain⟨H9,I9,e9,m⟩:=l;subst e9;have Q:ab (vw P hid) (vw H9 hid):=aC (q.trans m);cases ok with
    |false=>
     have a:oo g p A ρ0 (ds.drop (i+1))=p5 k:=a;obtain⟨k1,k2⟩:=t I9;exact⟨ds.length- (i+1),by grind,i+1,xs,ad,G,H9,rfl,N,I9.unpinned,k1,k2,fg (q8.ext m),B.trans (q.trans m),m _ _ (q _ _ U),M.mono Q,w5.trans Q,v5.trans Q,λj o=>na1 j (O j o),k,a,F⟩
    |true=>
     have a:((A ρ1).bind λys=>(oo g p A ρ0 (ds.drop (i+1))).map (ys++ ·))=p5 k:=a;cases e5:A ρ1 with
     |none=>rw[e5] at a;nofun
     |some zs=>
      rw[e5] at a;have a:(oo g p A ρ0 (ds.drop (i+1))).map (zs++ ·)=p5 k:=a;cases e6:oo g p A ρ0 (ds.drop (i+1)) with
      |none=>grind
      |some X=>
       rw[e6] at a;cases a;have l1:=M.length;have l2:=congrArg Ua F;simp only[S5] at l2;refine hA ds[i] ρ1 e3 _ s9 G H9 xs ad zs _ I9 (q8.ext m) (m _ _ (q _ _ U)) (M.mono Q) (by grind) (B.trans (q.trans m)) (w5.trans Q) na1 e5 λs10 XV H10 xs' I10 q10 a10 Ty smL XL Tm=>?_
       obtain⟨k1,k2⟩:=t I10;exact⟨ds.length- (i+1),by grind,i+1,xs',ad++zs,XV,H10,rfl,N,I10.unpinned,k1,k2,fg q10,smL,a10,Ty,(w5.trans Q).trans XL,(v5.trans Q).trans XL,λj o=>Tm j (O j o),X,e6,by nofun⟩
 ·have e:i=ds.length:=by lia
  subst e;rw[Xg (SB _)] at a;cases a;rw[Uv] at F;subst F;refine bB (T.done Y rfl rfl rfl y ds.length aa s5 v P (λ_ _=>False) I5 (C f5) st5 (io.2 P B wH)) λr s6 l=>?_
  obtain⟨hr,I6⟩:=l;subst hr;exact hR s6 v P xs I6 Z B U M v5 na5
end
def xw(f:FE):FA:=λρ=>(f ρ).map λd=>[d]
def G6(a:FA)(g:FG)(p:FT)(f:FE):FA:=λρ1=>(a ρ1).bind λds=>oo g p (xw f) ρ1 ds
def lQ(m:Nat)(a:FA)(g:FG)(e:FT)(b:FA)(d:FG)(c:FT)(f:FE):FE:=λρ=>(a ρ).bind λds=>(oo g e (G6 b d c f) (ρ++SN m .no) ds).bind λys=>if ys.length<=SU then p5 (.lst ys) else Sr
theorem sk(h:lQ m gi1 g1 p1 gi2 g2 p2 f ρ=p5 d): ∃ds ys,gi1 ρ=p5 ds/\oo g1 p1 (G6 gi2 g2 p2 f) (ρ++SN m .no) ds=p5 ys/\ys.length<=SU/\d=.lst ys:=by
 unfold lQ at h;cases e1:gi1 ρ with
 |none=>nofun
 |some ds=>
  rw[e1] at h;dsimp only[jbZ] at h;cases e2:oo g1 p1 (G6 gi2 g2 p2 f) (ρ++SN m .no) ds with
  |none=>nofun
  |some ys=>
   nofun
def ye(n:Nat)(g:FG):Prop:= ∀d (a ρ1:aB),g d a=p5 ρ1-> ∀i:Nat,n<=i->ρ1[i]? =a[i]?
def Bi(n:Nat)(g:vS):Prop:= ∀d (a ρ1:aB),g d a=p5 ρ1-> ∀i:Nat,n<=i->ρ1[i]? =a[i]?
theorem DC {n i:Nat}(h:i<n):ye n (gN i):=λd a ρ1 e=>by
 cases e;exact λj b=>SS ⋯
theorem J4 {n:Nat}:Bi n m9:=λd a ρ1 e=>by
 unfold m9 at e;lia
theorem xV {n:Nat}(f:ye n g)(c:Bi n gs):Bi n (ij g gs):=λd a ρ1 e=>by
 cases d with
 |nil=>cases e
 |cons d ds=>
  have e:(g d a).bind (λρ'=>gs ds ρ')=p5 ρ1:=e;cases e1:g d a with
  |none=>nofun
  |some ρ2=>
   rw[e1] at e;exact λi b=>(c ds ρ2 ρ1 e i b).trans (f d a ρ2 e1 i b)
theorem Qt {n m:Nat}(h:Bi n gs):ye n (gT m gs):=λd a ρ1 e=>by
 unfold gT at e;split at e
 ·split at e
  ·exact h _ _ _ e
  nofun
 nofun
section
variable {t1 t2 i1 i2:Expr}{ifs1 ifs2:List Expr}
theorem Gs
 (b:Vy (model prog w) A (.compLoop (.ListComp elt [⟨t1,i1,ifs1,0⟩,⟨t2,i2,ifs2,0⟩] scope pos) 1 it acc env) R s)
 (h:SL (model prog w) A (YS it) (λa s'=>Vy (model prog w) A (.compLoop (.ListComp elt [⟨t1,i1,ifs1,0⟩,⟨t2,i2,ifs2,0⟩] scope pos) 1 a acc env) R s')
   (notedBy (model prog w) A env λx s'=>R (.error x) s') s):
 Vy (model prog w) A (.compStart (.ListComp elt [⟨t1,i1,ifs1,0⟩,⟨t2,i2,ifs2,0⟩] scope pos) 1 it acc env) R s:=by
 refine XX (show SL _ _ ((compStart (.ListComp elt [⟨t1,i1,ifs1,0⟩,⟨t2,i2,ifs2,0⟩] scope pos) 1 it acc env).onRaise (λx=>do jbE x env;YG theWindowsPlace)) _ _ s from wpAny_notedAt ?_);unfold compStart;show SL _ _ (ask>>=_) _ _ s;refine Ss (XD (wpAny_ite ?_));split
 ·first
   |exact Ss (Sv (Sv (jbI rfl b)))
   |exact Sv (jbI rfl b)
 ·first
   |exact Ss (XA (Ss (Vb (Ss (Tv h (λa s' h'=>Sv (jbI rfl h')) λ_ _ x=>x)))))
   |(refine Ss (XA ?_);show SL _ _ (YG i2.pos>>=_) _ _ s;exact Ss (Vb (Ss (Tv h (λa s' h'=>Sv (jbI rfl h')) λ_ _ x=>x))))
end
section
variable {Y:Cx}{c:Ct}{t1 i1 i2:Expr}{ifs1:List Expr}
theorem Gc(h:Y.xe=λ_ _=>False)(F:DP Y c .s elt f)(E:hid D0=S1)(n:c.H₀ D0=Sr)(N:L D0=Sr):EX Y c hid D0 L W (xw f) (Ah Y.prog Y.w Y.A elt (.ref D0) Y.env) ρ1:=by
 intro R s σ H xs T zs Q I C ac G hz x S D p O;unfold xw at p;cases e5:f ρ1 with
 |none=>nofun
 |some y=>
  rw[e5] at p;cases p;unfold Ah;refine bB (h▸F hid ρ1 _ s σ H (λv g=>ab H g/\Rep Y.K (vw g hid) v y) I ⟨C,y,e5,λv g s' r=>⟨s',r⟩⟩) λv t B=>?_
  obtain⟨z,d,q,J,a,i⟩:=B;have j:d D0=p5 (.lst xs):=a _ _ ac;refine bB (h▸dL (X:=Y) _ t σ d (.ref D0) [z] (.ref D0) [v] (λ_ g=>g=aW d D0 (.lst (xs++[z]))) q rfl (.cons J .nil) ⟨D0,xs,z,rfl,rfl,j,by simp at hz;lia,rfl⟩) λ_ k ⟨_,M,u,_,l⟩=>?_
  subst l;have P:vw (aW d D0 (.lst (xs++[z]))) hid=vw d hid:=bV E;have m:ab (vw H hid) (vw d hid):=aC a;refine O k σ _ (xs++[z]) u ((C.ext a).write E n D j) aA ?_ (λb o e=>?_) ?_ D
  ·rw[P];exact(G.mono m).append (.cons i .nil)
  ·rw[az (bF e N)];exact a _ _ (x _ _ e)
  nofun
theorem Ds(g:Y.calm=S1)(e:Y.xe=λ_ _=>False)(hT:gZ n1 g2)(V:QD n1 ρ1)(O:DIp Y c t2 i2 gi2)(P:vR Y c t2 g2)(G:vX Y c ifs2 p2)(he:DP Y c .s elt f)(B:hid D0=S1)(n:c.H₀ D0=Sr)(nD:L D0=Sr):
 EX Y c hid D0 L W (G6 gi2 g2 p2 f) (vB Y.prog Y.w Y.A (.ListComp elt [⟨t1,i1,ifs1,0⟩,⟨t2,i2,ifs2,0⟩] scope pos) i2 (.ref D0) Y.env) ρ1:=by
 intro M s σ H xs ad zs Q I C ac D hz q wv X k hQ;unfold G6 at k;cases e5:gi2 ρ1 with
 |none=>nofun
 |some ds=>
  rw[e5] at k;have k:oo g2 p2 (xw f) ρ1 ds=p5 zs:=k;unfold vB;refine bB (e▸O hid ρ1 M s σ H (λJ h=>ab H h/\pk Y.K (vw h hid) J ds) I ⟨C,ds,e5,λJ h z y=>⟨z,y⟩⟩) λv z N=>bB N λU s2 F=>?_
  obtain⟨it,fp,tn,J,R,rfl,E,T,l,S,j,y⟩:=F;have l1:=D.length
  have a:Vy (model Y.prog Y.w) Y.A (.compLoop (.ListComp elt [⟨t1,i1,ifs1,0⟩,⟨t2,i2,ifs2,0⟩] scope pos) 1 (.ref it) (.ref D0) Y.env) (λr s'=>match r with
   | .ok _=>Q s'
   | .error _=>False) s2:=by
   refine xl (L:=L) (W:=vw R hid) (ad0:=ad) (xs0:=xs) (A:=xw f) (TA:=Ah Y.prog Y.w Y.A elt (.ref D0) Y.env) g e hT P G (λd ρ2 _=>Gc e he B n nD) V E (C.ext j) B X (j _ _ ac) (D.mono (aC j)) (q.trans j) (ab.refl _) T l S y.b (by nofun) k FZ ?_
   intro s' p h t Z u i o m v' x;exact hQ s' p h t Z u o m i ((aC j).trans v') x
  exact Gs a (T.self Y.A 0 _ _ _ l a)
end
section
variable {X:Cx}{i1 i2:Expr}{scope:Vj}{N':List Str}
theorem nz(n:X.calm=S1)(hk:scope.kind=.function)(hs:Bb scope X.env.scope=S1)(hn:Bx X.N N' scope=S1)(hm:N'.length-X.N.length=m)(hT1:gZ X.N.length g1)(hU1:ye n1 g1)(hn1:X.N.length<=n1)(hT2:gZ n1 g2)
 (Z: ∀C g a l,∀x,TY i2 (aE X N' scope C g a l).env x=pure x)
 (hg1: ∀C g a l,vR (aE X N' scope C g a l) c t1 g1) (hp1: ∀C g a l,vX (aE X N' scope C g a l) c ifs1 p1) (Tm: ∀C g a l,DIp (aE X N' scope C g a l) c t2 i2 gi2)
 (hg2: ∀C g a l,vR (aE X N' scope C g a l) c t2 g2) (XV: ∀C g a l,vX (aE X N' scope C g a l) c ifs2 p2) (he: ∀C g a l,DP (aE X N' scope C g a l) c .s elt f) {s:Sx} {ds ys:List D} {RR:Sw->Addr->Zm->Sx->Prop}
 (I:Inv X aa σ H s) (P:SR X.K c hid ρ σ H) (T:ox X.prog X.w X.K t1 J fp it tn) (st:tn 0 s.heap) (hF: ∀b∈fp,ik X aa H b) (io:N5 X.K H (vw H hid) J ds) (hz:ys.length<=SU) (hc:oo g1 p1 (G6 gi2 g2 p2 f) (ρ++SN m .no) ds=p5 ys)
 (hR: ∀(D C:Addr) (s':Sx) (t:Hp) (xs:List V),s.heap.objs.size<=D->s.heap.objs.size<=C->D≠C->H D=Sr->ab H t->t D=p5 (.lst xs)->Reps X.K (vw t (bA hid D)) xs ys->(∃m,s'.heap.Ns C m)->t C=Sr->s'.os=s.os->XH s'.gens->HOk X.prog X.w t s'.heap->Un (frs X.stack) fp H t s.heap s'.heap->RR (.ref D) C (.ok .next) s'):
 SL (model X.prog X.w) X.A (jbf []) (λacc O=>SL (model X.prog X.w) X.A (Yt scope X.env.globals (vT X.env.cells scope.names []) [] X.env.qual Sr .none (p5 X.env)) (λy Q=>
  Vy (model X.prog X.w) X.A (.compStart (.ListComp elt [⟨t1,i1,ifs1,0⟩,⟨t2,i2,ifs2,0⟩] scope pos) 0 (.ref it) acc {y with scope:=XM scope X.env}) (RR acc y.locals) Q) E O) E s:=by
 refine T6 (Aj λv h r j=>?_);dsimp only at h r j⊢;generalize B:s.heap.push {cls:=.type "list",dict:=Sr,data:=.seq ([]:List Sw).toArray}=H2 at h r j⊢;have hC:H2.objs.size=s.heap.objs.size+1:=by rw[<-B,UY]
 have p:H s.heap.objs.size=none:=I.hok.fresh (SB _);have I2:Inv X aa σ (aW H s.heap.objs.size (.lst [])) {s with heap:=H2}:=by
  rw[<-B];exact I.laid (t':=s.toks) (λb o e=>Sy _ e) (SB _) ⟨Ur _,[],0,.nil,SC _ rfl⟩
 have R: ∀b∈fp,b<s.heap.objs.size:=λb k=>let⟨o,e,_⟩:=T.obj 0 s.heap st b k;SH e
 have U: ∀b∈fp,ik X aa (aW H s.heap.objs.size (.lst [])) b:=λb k=>⟨by rw[az (S7 (R b k))];exact(hF b k).1,(hF b k).2⟩
 have z: ∀b o,s.heap.get? b=p5 o->H2.get? b=p5 o:=λb o e=>by rw[<-B];exact Sy _ e
 have G:=wj (tk:=s.toks) (N':=N') (fp:=fp) I2 U (λb k=>let⟨o,e,_⟩:=T.obj 0 s.heap st b k;⟨o,z b o e⟩) hk hs hn h r j;rw[hm] at G;dsimp only at G;have sr0:SR X.K c (bA hid s.heap.objs.size) (ρ++SN m .no) (σ++SN m Sr) (aW H s.heap.objs.size (.lst [])):=(P.hide (aJ p _) p aA).more m;have hρ:ρ.length=X.N.length:=by rw[<-P.len];exact I.len
 have nf:hid s.heap.objs.size=false:=P.fresh p;have M:tn 0 v:=T.keep _ _ _ st λb k o e=>r b o (z b o e)
 have na0: ∀i:Nat,Ow (ρ++SN m Sl.no)[i]? ->(σ++SN m Sr)[i]? ≠p5 (p5 (V.ref s.heap.objs.size)):=(P.more m).notOw nf
 have wv:ab (vw H hid) (vw (aW H s.heap.objs.size (.lst [])) (bA hid s.heap.objs.size)):=by rw[uJ p];exact ab.refl _
 have S:QD X.N.length (ρ++SN m Sl.no):=λi s hi e=>by
  grind[Uu]
 have u: ∀s4:Sx,s4={s with heap:=v,toks:=s.toks}->
  Vy (model X.prog X.w) X.A (.compLoop (.ListComp elt [⟨t1,i1,ifs1,0⟩,⟨t2,i2,ifs2,0⟩] scope pos) 0 (.ref it) (.ref s.heap.objs.size) (jbc scope (qw X.env.cells scope H2.objs.size) H2.objs.size X.env)) (RR (.ref s.heap.objs.size) H2.objs.size) s4:=by
  rintro s4 rfl;have fpY: ∀b∈fp,ik (aE X N' scope H2.objs.size {s with heap:=H2} (aW H s.heap.objs.size (.lst [])) fp) [] (aW H s.heap.objs.size (.lst [])) b:=λb k=>
   ⟨(U b k).1,(G.ok.exf b k).1,G.ok.exfs b k,.inl k,(G.ok.exf b k).2,λq hq=>by have hq':q∈([]:List (Addr×Obj))++[]:=hq;nofun⟩
  refine xl (Y:=aE X N' scope H2.objs.size {s with heap:=H2} (aW H s.heap.objs.size (.lst [])) fp) (L:=H) (hid:=bA hid s.heap.objs.size) (W:=vw H hid) (ad0:=[]) (xs0:=[]) (A:=G6 gi2 g2 p2 f) (TA:=vB X.prog X.w X.A (.ListComp elt [⟨t1,i1,ifs1,0⟩,⟨t2,i2,ifs2,0⟩] scope pos) i2 (.ref s.heap.objs.size) (jbc scope (qw X.env.cells scope H2.objs.size) H2.objs.size X.env))
   n rfl hT1 (hg1 _ _ _ _) (hp1 _ _ _ _) (λd ρ1 e=>Ds (Y:=aE X N' scope H2.objs.size {s with heap:=H2} (aW H s.heap.objs.size (.lst [])) fp) n rfl hT2 (λi s hi e'=>?_) (Tm _ _ _ _) (hg2 _ _ _ _) (XV _ _ _ _) (he _ _ _ _) cm (P.fresh0 p) p) S G sr0 cm na0 aA .nil (aJ p _) wv T M fpY io (by nofun) hc (Co (Z H2.objs.size {s with heap:=H2} (aW H s.heap.objs.size (.lst [])) fp)) ?_
  ·rw[hU1 _ _ _ e i hi] at e';exact S i s (by omega) e'
  ·intro s' σ' t xs F _ sm' Ty ST _ _;have XL:Un (frs X.stack) fp H (aW H s.heap.objs.size (.lst [])) s.heap H2:=Un.laid (λb o e=>z b o e) (SB _) p;exact hR s.heap.objs.size H2.objs.size s' t xs (SB _) (by nofun) (by nofun) p sm' Ty ST (let⟨m,hm,_⟩:=F.loc;⟨m,hm⟩) F.free F.os F.bare F.hok (XL.trans F.base)
 exact Zs (u _ rfl) (T.self X.A 0 _ _ _ M (u _ rfl))
theorem kM(r:X.calm=S1)(W:Nat)(hT1:gZ X.N.length g1)(Z:ye W g1)(hT2:gZ W g2)(hi:LN X c t1 i1 gi1)
 (hg1: ∀C g a i,vR (aE X N' scope C g a i) c t1 g1) (hp1: ∀C g a i,vX (aE X N' scope C g a i) c ifs1 p1) (R: ∀C g a i,DIp (aE X N' scope C g a i) c t2 i2 gi2)
 (Tm: ∀C g a i,vR (aE X N' scope C g a i) c t2 g2) (U: ∀C g a i,vX (aE X N' scope C g a i) c ifs2 p2) (he: ∀C g a i,DP (aE X N' scope C g a i) c .s elt f)
 (hk:scope.kind=.function:=by rfl) (hs:Bb scope X.env.scope=true:=by kernel_rfl) (hn:Bx X.N N' scope=true:=by kernel_rfl) (hm:N'.length-X.N.length=m:=by rfl) (ST:X.N.length<=W:=by exact SE rfl) (G: ∀x,TY i1 X.env x=pure x:=by intro _;rfl)
 (y: ∀C g a i,∀x,TY i2 (aE X N' scope C g a i).env x=pure x:=by intros;rfl):
 DP X c .n (.ListComp elt [⟨t1,i1,ifs1,0⟩,⟨t2,i2,ifs2,0⟩] scope pos) (lQ m gi1 g1 p1 gi2 g2 p2 f):=by
 intro hid ρ aa s σ H Q I hq;obtain⟨sr,d,hd,q⟩:=hq;obtain⟨ds,ys,e1,hc,hz,rfl⟩:=sk hd;rw[eval_ListComp];refine VP (use:=Sr) rfl G (dX λx V=>I.ok.has x (gG hs x V)) hk (i9 hs) ?_
 refine bB (hi hid ρ aa s σ H (λJ j=>ab H j/\N5 X.K j (vw j hid) J ds) I ⟨sr,ds,e1,λJ j s1 io=>⟨s1,io⟩⟩) λv s1 F=>bB F λitv s2 l=>?_
 obtain⟨it,fp,tn,J,H2,rfl,I2,T,st2,E,S,io⟩:=l;refine nz (RR:=λacc C=>jcY (model X.prog X.w) X.A X.xe Sr (EP X aa σ Q) acc C) r hk hs hn hm hT1 Z ST hT2 y hg1 hp1 R Tm U he I2 (sr.ext S) T st2 E io hz hc ?_
 intro D C s' j xs hDge B hDC hD Y V rp ⟨mm,hns⟩ hC' hos p P h;refine⟨mm,hns,λh' k=>⟨.ref D,j,?_,rfl,q _ j (S.trans Y) ⟨D,xs,ys,rfl,rfl,S.free hD,V,rp⟩⟩⟩;have t: ∀b o,s2.heap.get? b=p5 o->b≠C:=λb o e z=>by subst z;exact absurd (SH e) (We.mpr B)
 have M:Un (frs X.stack) fp H2 j s2.heap h':=⟨λb o e n F l=>(k.2 b (t b o e)).trans (h.keep b o e n F l),λb o e n F l=>let⟨sl,z⟩:=h.slot b o e n F l;⟨sl,(k.2 b (t b o e)).trans z⟩,h.free,λb o e l=>let⟨o',z⟩:=h.there b o e l;⟨o',(k.2 b (t b o e)).trans z⟩,h.tups,h.frzs,h.tbls⟩
 have L:HOk X.prog X.w j h':=λb o e=>by
  have nb: ∀b' o',j b'=p5 o'->b'≠C:=λb' o' e' z=>by nofun
  refine(P b o e).stay (λc' u hc' z=>(k.2 c' ?_).trans z) (λ_ z=>z) λ_ _ z=>z
  lia
 exact I2.call' (s':={s' with heap:=h'}) (ch:=fp) hos M L p λb O=>⟨(E b O).2.2.2.1,(E b O).2.1,(E b O).2.2.2.2.1,(E b O).2.2.2.2.2⟩
end
section
variable {K:SA}
def M4:List D->List D->Option (D×List D):=λ_ ds=>match ds with
 | []=>p5 (.non,[])
 |_=>Sr
theorem G5:Mw K GW 0 M4:=by
 intro H hid a xs us bs ds f d Q b h i g c e q;cases ds with
 |nil=>
  cases e;cases g;exact⟨a,xs,rfl,rfl,b,q _ _ .nil .non⟩
 |cons _ _=>cases c
end
def zD(ds:List D)(a b:Option Int):List D:=(ds.drop (HT.sIx ds.length 0 a)).take (HT.sIx ds.length ds.length b-HT.sIx ds.length 0 a)
theorem Fw {K:SA}(r:Reps K F xs ds)(b a:Option Int):Reps K F (CF xs b a) (zD ds b a):=by
 unfold CF zD;rw[r.length];exact(r.drop _).take _
abbrev FO:=aB->Option (Option Int)
def R5(K:SA)(c:Ct)(hid:bC)(f:FO)(ρ:aB):TO:=λσ H Q=>SR K c hid ρ σ H/\ ∃o,f ρ=p5 o/\ ∀a,ab H a->Q o a
def DO(X:Cx)(c:Ct)(e:Option Expr)(f:FO):Prop:= ∀hid ρ,PO X e (R5 X.K c hid f ρ)
theorem PO.imp {X:Cx}(h:PO X e t)(i: ∀σ H Q,t' σ H Q->t σ H Q):PO X e t':=λa s σ H Q I q=>h a s σ H Q I (i σ H Q q)
section
variable {a b:Expr}{f:FE}{l u:FO}
def Qo:FO:=λ_=>p5 Sr
def PX(f:FE):FO:=λρ=>(f ρ).bind λd=>match d with
 | .int i=>p5 (p5 i)
 |_=>Sr
theorem A8:DO X c Sr Qo:=λhid ρ=>PO.imp JL λσ H Q ⟨a,o,e,q⟩=>by cases e;exact q H (ab.refl _)
theorem Ad(h:DP X c k e f):DO X c (p5 e) (PX f):=λhid ρ=>PO.imp (Ke (h hid ρ)) λσ H Q g=>by
 obtain⟨j,o,e,q⟩:=g;unfold PX at e;cases e1:f ρ with
 |none=>nofun
 |some d=>
  rw[e1] at e;cases d with
  |int i=>
   cases e;refine⟨j,_,e1,λv l s r=>⟨i,?_,q l s⟩⟩;exact(RK.b k r λa n=>j.fresh n).int
  |_=>nofun
def C4(f:FE)(l u:FO):FE:=λρ=>(f ρ).bind λd=>match d with
 | .lst ds=>(l ρ).bind λb=>(u ρ).map λa=>.lst (zD ds b a)
 |_=>Sr
theorem Gr(E:DP X c k e f)(B:DO X c r l)(C:DO X c m u):DP X c .n (.Subscript e (.Slice r m Sr p2) pos) (C4 f l u):=λhid ρ=>
 PE.imp (Gn II (E hid ρ) (B hid ρ) (C hid ρ)) λσ H Q s=>by
  obtain⟨i,d,g,q⟩:=s;unfold C4 at g;cases e1:f ρ with
  |none=>nofun
  |some z=>
   rw[e1] at g;cases z with
   |lst ds=>
    have g:((l ρ).bind λr=>(u ρ).map λm=>D.lst (zD ds r m))=p5 d:=g;cases e2:l ρ with
    |none=>nofun
    |some t=>
     rw[e2] at g;cases e3:u ρ with
     |none=>nofun
     |some x=>
      rw[e3] at g;cases g;refine⟨i,_,e1,λv I h F=>⟨i.ext h,t,e2,λJ j=>⟨(i.ext h).ext j,x,e3,λG o=>?_⟩⟩⟩;obtain⟨a,xs,rfl,A,y⟩:=((RK.b k F λa n=>i.fresh n).ext (j.trans o)).lst;exact⟨a,xs,rfl,A,λp w=>q _ _ ((h.trans (j.trans o)).trans (aJ w _)) (fH w (h.trans (j.trans o)) (Fw y t x))⟩
   |_=>nofun
end
end
end Lake
namespace PySem
noncomputable section
open Sem (wp)
open AutoSeq1 (wpAny_loadPart')
section
variable {A:Tr}
theorem o6{us}(a:s.heap.IsTupleIter it t i)(h:s.heap.IsTuple t us)(f:us[i]? =p5 x)
 (j: ∀g,g.IsTupleIter it t (i+1)->Tw it s.heap g->Q x {s with heap:=g}):SL (model prog w) A (UA (.ref it)) Q E s:=by
 obtain⟨o,c,k,b⟩:=id a;obtain⟨l,e,_,m,d⟩:=h;unfold UA;refine Ss (Uf (name:=VM "__next__") a.typeIs Vw (TU Vw a.typeIs Yg (show SL _ _ (jdi (.ref it) 0>>=_) _ _ s from Ss (VN c b (x:=.ref t) rfl ?_)) (XY _)));show SL _ _ (if(Tc t==Tn)=S1 then _ else _) _ _ s;rw[if_neg (show¬((Tc t==Tn)=S1) from V9)];refine(show SL _ _ (jdi (.ref it) 1>>=_) _ _ s from Ss (VN c b (x:=.int i 0) rfl (show SL _ _ (seqItems? (.ref t)>>=_) _ _ s from Ss (Yn e d ?_))));simp only[Vg,f];exact Ss (V0 c b (by simp) (Sv ⟨x,rfl,Sv (j _ ⟨_,Ts _ c (U6 (UR b _)),(Xi ..).trans k,by rw[UR b];rfl⟩ (Tx ..))⟩))
theorem qR{us}(j:A.handled=Sr)(b:s.heap.IsTupleIter it t i)(n:s.heap.IsTuple t us)(k:us[i]? =Sr)
 (l: ∀g e,YK it s.heap g->(∃o,g.get? e=p5 o/\o.cls=.type "StopIteration")->E (.ref e) {s with heap:=g}):SL (model prog w) A (UA (.ref it)) Q E s:=by
 obtain⟨o,f,q,d⟩:=id b;obtain⟨p,h,_,r,c⟩:=n;unfold UA;refine Ss (Uf (name:=VM "__next__") b.typeIs Vw (TU Vw b.typeIs Yg (show SL _ _ (jdi (.ref it) 0>>=_) _ _ s from Ss (VN f d (x:=.ref t) rfl ?_)) (XY _)));show SL _ _ (if(Tc t==Tn)=S1 then _ else _) _ _ s;rw[if_neg (show¬((Tc t==Tn)=S1) from V9)];refine(show SL _ _ (jdi (.ref it) 1>>=_) _ _ s from Ss (VN f d (x:=.int i 0) rfl (show SL _ _ (seqItems? (.ref t)>>=_) _ _ s from Ss (Yn h c ?_))));simp only[Vg,k];refine Ss (XA (Ss (V0 f d (by grind) (show SL _ _ (jdj (.type "StopIteration") []>>=_) _ _ _ from Ss ?_))));simp only[jdj,jdk];refine Ss (T6 ?_ (by size_fits));refine Ss (m:=Z1 _ _) (YJ (a:=Tn) (by rfl) (T6 ?_ (by size_fits)));simp only[raiseNew];refine Ss (jar ?_)
 first|rw[show A.in1.handled=none from j]|rw[j]
 exact Ss (Sv (jcd (l _ _ (((Tx ..).extBut.push _).push _) ⟨_,SC _ rfl,rfl⟩)))
theorem uw{x old:Sw}{N:Heap->Prop}(R:XZ s.heap e it i old)(q:e≠it)(P: ∀g g',N g->(∀o,g.get? it=p5 o->g'.get? it=p5 o)->N g')
 (nx: ∀(Y:Tr) (W:Sw->Sx->Prop) (Z:Sw->Sx->Prop),(∀g,N g->Tw it s.heap g->W x {s with heap:=g})->SL (model prog w) Y (UA (.ref it)) W Z s)
 (hQ: ∀g,IsEnumOut g e it ((i:Int)+1) x s.heap.objs.size->N g->g.get? s.heap.objs.size=p5 {cls:=.type "tuple",data:=.seq #[.int i s.toks,x]}->g.objs.size=s.heap.objs.size+1->
   (∀b o,b≠e->b≠it->s.heap.get? b=p5 o->g.get? b=p5 o)->Q (p5 (.ref s.heap.objs.size)) {s with heap:=g,toks:=s.toks+1}):SL (model prog w) A (Wa (.ref e)) Q E s:=by
 have X:s.TypeIs (.ref e) "enumerate":=⟨_,R,rfl⟩
 unfold Wa;refine Ss (WW (Uf (name:=VM "__next__") X Wr (TU Wr X Zv ?_ (Za _))));obtain⟨D,K,J,tk,os⟩:=s;refine(show SL _ _ (jdi (.ref e) 2>>=_) _ _ _ from Ss (VN R rfl (x:=.ref it) rfl (Ss (nx _ _ _ λc O j=>?_))));replace j:Tw it D c:=j;have t:XZ c e it i old:=(j.2 e q).trans R;refine(show SL _ _ (jdi (.ref e) 3>>=_) _ _ ⟨c,K,J,tk,os⟩ from Ss (VN t rfl (x:=Wb i) rfl ?_));refine(show SL _ _ (jdi (.ref e) 4>>=_) _ _ ⟨c,K,J,tk,os⟩ from Ss (VN t rfl (x:=.none) rfl ?_));refine(show SL _ _ (mkInt i>>=_) _ _ ⟨c,K,J,tk,os⟩ from Ss (wpAny_mkInt ?_));refine(show SL _ _ (jdl (.ref e) 3 (Wb ((i:Int)+1))>>=_) _ _ ⟨c,K,J,tk+1,os⟩ from Ss (Wg t (by simp) λn v k=>?_));replace k:Tw e c n:=k;replace v:XZ n e it ((i:Int)+1) old:=v;refine(show SL _ _ (jdl (.ref e) 4 .none>>=_) _ _ ⟨n,K,J,tk+1,os⟩ from Ss (Wg v (by grind) λa C l=>?_));replace l:Tw e n a:=l;replace C:XZ a e it ((i:Int)+1) old:=C;refine(show SL _ _ (jdk [.int i tk,x]>>=_) _ _ ⟨a,K,J,tk+1,os⟩ from Ss (wpAny_newTuple ?_));have L:a.objs.size=D.objs.size:=by rw[l.1,k.1,j.1]
 have T:e<D.objs.size:=SH R;have p:XZ (a.push {cls:=.type "tuple",data:=.seq #[.int i tk,x]}) e it ((i:Int)+1) old:=Sy _ C;have F:N (a.push {cls:=.type "tuple",data:=.seq #[.int i tk,x]}):=P _ _ O λo V=>Sy _ (l.extBut _ _ (To q) (k.extBut _ _ (To q) V))
 have I:(a.push {cls:=.type "tuple",data:=.seq #[.int i tk,x]}).get? D.objs.size=p5 {cls:=.type "tuple",data:=.seq #[.int i tk,x]}:=by rw[<-L];exact SC _ rfl
 have G:(a.push {cls:=.type "tuple",data:=.seq #[.int i tk,x]}).objs.size=D.objs.size+1:=by nofun
 have H: ∀b o,b≠e->b≠it->D.get? b=p5 o->(a.push {cls:=.type "tuple",data:=.seq #[.int i tk,x]}).get? b=p5 o:=λb o M S U=>Sy _ (l.extBut b o M (k.extBut b o M (j.extBut b o S U)))
 generalize a.push {cls:=.type "tuple",data:=.seq #[.int i tk,x]}=g₄ at p F I G H;rw[L];refine(show SL _ _ (WX (.ref e)>>=_) _ _ ⟨g₄,K,J,tk+1,os⟩ from Ss ?_);unfold WX;refine Ss (VN p rfl (x:=.none) rfl (Sv ?_));simp only[if_true];refine Ss (XA (Ss (VN p rfl (x:=old) rfl (Ss (Wg p (by simp) λm r f=>?_)))));replace f:Tw e g₄ m:=f;replace r:XZ m e it ((i:Int)+1) x:=r;refine(show SL _ _ (WS (.ref e) (.ref D.objs.size)>>=_) _ _ ⟨m,K,J,tk+1,os⟩ from Ss ?_);unfold WS;refine Ss (Wg r (by simp) λz B h=>?_);replace h:Tw e m z:=h;replace B:IsEnumOut z e it ((i:Int)+1) x D.objs.size:=B;refine Wg B (by simp) λu y d=>?_
 replace d:Tw e z u:=d;replace y:IsEnumOut u e it ((i:Int)+1) x D.objs.size:=y;refine Ss (wpAny_letGo (Sv ⟨_,rfl,Sv (hQ u y (P _ _ F λo V=>?_) ?_ ?_ λb o M S U=>?_)⟩))
 ·exact d.extBut _ _ (To q) (h.extBut _ _ (To q) (f.extBut _ _ (To q) V))
 ·exact d.extBut _ _ (Ux T) (h.extBut _ _ (Ux T) (f.extBut _ _ (Ux T) I))
 ·rw[d.1,h.1,f.1,G]
 ·exact d.extBut b o M (h.extBut b o M (f.extBut b o M (H b o M S U)))
theorem wf(f:XZ s.heap e it i old)
 (nx: ∀(d:Tr),d.handled=A.handled-> ∀(n:Sw->Sx->Prop) (a:Sw->Sx->Prop),(∀g x,YK it s.heap g->(∃o,g.get? x=p5 o/\o.cls=.type "StopIteration")->a (.ref x) {s with heap:=g})->SL (model prog w) d (UA (.ref it)) n a s)
 (j: ∀g,YK it s.heap g->Q Sr {s with heap:=g}):SL (model prog w) A (Wa (.ref e)) Q E s:=by
 have c:s.TypeIs (.ref e) "enumerate":=⟨_,f,rfl⟩
 unfold Wa;refine Ss (WW (Uf (name:=VM "__next__") c Wr (TU Wr c Zv (show SL _ _ (jdi (.ref e) 2>>=_) _ _ _ from Ss (VN f rfl (x:=.ref it) rfl (Ss (nx A.in1 rfl _ _ λg x k h=>?_)))) (Za _))));obtain⟨o,l,m⟩:=h;exact Ss (V1 (T:="StopIteration") (b:=S1) ⟨o,l,m⟩ Z2 (Sv (j _ k)))
end
set_option maxHeartbeats 1000000 in
theorem ux(l:Addr)(us:Array Sw)(n:Nat)(dct:Option Addr)(f:Array (Option Sw)):
 Meets (Vc.«enumerate.__new__» ⟨[.type "enumerate",.ref l],[]⟩) (λ_ R s=>s.heap.get? l=p5 {cls:=.type "tuple",dict:=dct,data:=.seq us n,slots:=f}/\
  R (.ok (.ret (.ref (s.heap.push {cls:=.type "tuple_iterator",data:=.fields #[.ref l,.int 0 0]}).objs.size)))
   {s with heap:=(s.heap.push {cls:=.type "tuple_iterator",data:=.fields #[.ref l,.int 0 0]}).push {cls:=.type "enumerate",data:=.fields #[.none,.bool Pa,.ref s.heap.objs.size,Wb 0,.none,.none]}}):=
 .of_wp λprog w A R s h=>by
  obtain⟨i,g,d,tk,os⟩:=s;obtain⟨a,h⟩:=h;have e:=sub_enumerate;have b:Heap.IsTuple (Shared.heap ⟨i,g,d,tk,os⟩) l us:=⟨_,a,rfl,n,rfl⟩
  wp_walk using VC a
  refine wpAny_stack_any λst=>Sv ?_
  split
  ·rename_i c _ _ _ _ _
   cases (c==jax "enumerate")
   ·wp_walk using VC a,W4 b
    exact⟨_,rfl,h⟩
   ·wp_walk using VC a,W4 b
    exact⟨_,rfl,h⟩
  ·wp_walk using VC a,W4 b
   exact⟨_,rfl,h⟩
section
theorem qS(j:s.heap.IsTuple l us)
 (h: ∀g,XZ g (s.heap.objs.size+1) s.heap.objs.size 0 .none->g.IsTupleIter s.heap.objs.size l 0->g.objs.size=s.heap.objs.size+2->(∀b o,s.heap.get? b=p5 o->g.get? b=p5 o)->Q (.ref (s.heap.objs.size+1)) {s with heap:=g}):
 SL (model prog w) A (call (.type "enumerate") [.ref l]) Q E s:=by
 obtain⟨⟨cls,dct,d,f⟩,i,c,n,a⟩:=j;have c:cls=.type "tuple":=c;have a:d=.seq us n:=a;subst c a;refine callType_new jaA (by rfl) (Zw _) (ZN _) (λobj=>Z3 obj _) ZO (ux l us n dct f) ⟨i,?_⟩;have hz:(s.heap.push {cls:=.type "tuple_iterator",data:=.fields #[.ref l,.int 0 0]}).objs.size=s.heap.objs.size+1:=UY ..;show _/\_;rw[hz];have e:XZ ((s.heap.push {cls:=.type "tuple_iterator",data:=.fields #[.ref l,.int 0 0]}).push {cls:=.type "enumerate",data:=.fields #[.none,.bool Pa,.ref s.heap.objs.size,Wb 0,.none,.none]}) (s.heap.objs.size+1) s.heap.objs.size 0 .none:=by
  have:=SC (s.heap.push {cls:=.type "tuple_iterator",data:=.fields #[.ref l,.int 0 0]}) (o:={cls:=.type "enumerate",data:=.fields #[.none,.bool Pa,.ref s.heap.objs.size,Wb 0,.none,.none]}) rfl;rw[hz] at this;omega
 exact⟨⟨_,e,rfl⟩,h _ e ⟨_,Sy _ (SC _ rfl),rfl,rfl⟩ (by simp) λb o x=>Sy _ (Sy _ x)⟩
end
end
end PySem
namespace Lake
noncomputable section
open PySem PySem.Spec PyProof.Rows
def RX(K:SA)(a:Addr):It:=
 ⟨λi H=> ∃xs x,SqT K H a xs/\xs[i]? =p5 x,λi H x b=> ∃T,x=.ref T/\H T=Sr/\ ∀xs,SqT K H a xs-> ∃y,xs[i]? =p5 y/\b=aW H T (.tup [.int i,y]),λi H=> ∃xs,SqT K H a xs/\xs.length<=i⟩
theorem yN{K:SA}{x1}(a it e:Addr)(A:e≠it):ox P w K (.Tuple es x1 pos) (RX K a) [e,it] e (λi h=>(∃old,XZ h e it i old)/\h.IsTupleIter it a i) where
 mem:=by simp
 obj:=λi h st b d=>by
  obtain⟨⟨old,f⟩,o,ho,hc,hd⟩:=st;rcases S6.mp d with rfl|d
  ·exact⟨_,f,λv z=>by nofun⟩
  nofun
 keep:=λi h h' st k=>by
  obtain⟨⟨old,f⟩,c⟩:=st;exact⟨⟨old,k e (by simp) _ f⟩,c.at λo x=>k it (by simp) o x⟩
 item:=by
  intro X Y hw hK hc i J s σ H E I M st S;subst Y hw hK;obtain⟨xs,x,L,T⟩:=S;obtain⟨r,rv,p,hz⟩:=I.tuple L;obtain⟨u,hu,ru⟩:=rv.get T;obtain⟨⟨old,f⟩,c⟩:=st;obtain⟨e0,e1,e2,e3,e4,e5⟩:=M e (by simp);obtain⟨Q,U,f2,f3,W,f5⟩:=M it (by simp);have ht:s.heap.IsTuple a r.toArray:=p;refine uw (x:=u) (N:=λg=>g.IsTupleIter it a (i+1)) f A (λg g' n k=>n.at k) (λA' Q' E' t=>o6 c ht (by simpa using hu) λg n b=>t g n b) λg F l hT hsz hk=>⟨_,rfl,?_⟩
  refine Yu F λg' he' j=>?_
  have B:e<s.heap.objs.size:=SH f;have k2: ∀b o,b≠e->b≠it->s.heap.get? b=p5 o->g'.get? b=p5 o:=λb o h1 h2 h3=>(j.2 b h1).trans (hk b o h1 h2 h3)
  have hT':g'.get? s.heap.objs.size=p5 {cls:=.type "tuple",data:=.seq #[.int i s.toks,u]}:=(j.2 _ (Ux B)).trans hT;have hn:H s.heap.objs.size=none:=I.hok.fresh (SB _);have I1:Inv X J σ (aW H s.heap.objs.size (.tup [.int i,x])) {s with heap:=g',toks:=s.toks+1}:=by
   obtain⟨D,hoi,hci,R⟩:=id (show g'.IsTupleIter it a (i+1) from l.at λo y=>(j.2 it (To A)).trans y);obtain⟨os0,m,_⟩:=id c;have V:it<s.heap.objs.size:=SH m;have I0:Inv X J σ (aW H s.heap.objs.size (.tup [.int i,x])) {s with heap:=s.heap.push {cls:=.type "tuple",data:=.seq #[.int i s.toks,u]},toks:=s.toks+1}:=
    I.laid (t':=s.toks+1) (λb o q=>Sy _ q) (SB _) (show ci X.prog X.w _ _ _ (.tup [.int i,x]) from
     ⟨Va (fC (by simp)),[.int i s.toks,u],.cons ⟨_,rfl⟩ (.cons ru .nil),⟨_,SC _ rfl,rfl,_,rfl⟩,_,SC _ rfl,rfl⟩)
   have u1:((s.heap.push {cls:=.type "tuple",data:=.seq #[.int i s.toks,u]}).update it λ_=>D).get? it=p5 D:=Ts (λ_=>D) (Sy _ m) (U6 R);have I1:Inv X J σ (aW H s.heap.objs.size (.tup [.int i,x])) {s with heap:=(s.heap.push {cls:=.type "tuple",data:=.seq #[.int i s.toks,u]}).update it λ_=>D,toks:=s.toks+1}:=
    I0.turned (t':=s.toks+1) (λb o d q=>(Uy _ _ (To d)).trans q) (by rw[az (S7 V)];exact Q) U f3 W f5
   refine I1.turned (t':=s.toks+1) (λb o d q=>?_) (by rw[az (S7 B)];exact e0) e1 e3 e4 e5
   by_cases G:b=it
   ·nofun
   ·have O:((s.heap.push {cls:=.type "tuple",data:=.seq #[.int i s.toks,u]}).update it λ_=>D).get? b=p5 o:=q;rw[Uy _ _ (To G)] at O
    by_cases C:b=s.heap.objs.size
    ·subst C;rw[SC _ rfl] at O;nofun
    ·rw[YL _ _ _ C] at O;exact k2 b o d G O
  refine⟨.ref s.heap.objs.size,aW H s.heap.objs.size (.tup [.int i,x]),I1,rfl,⟨_,rfl,hn,λys hy=>⟨x,by rw[I.tuple_inj hy L];exact T,rfl⟩⟩,⟨⟨u,by simpa using he'⟩,l.at λo y=>(j.2 it (To A)).trans y⟩,λb d=>?_⟩;rcases S6.mp d with rfl|d
  ·rw[az (S7 B)];exact e0
  ·have:b=it:=by simpa using d
   subst this;obtain⟨o,ho,_⟩:=c;rw[az (S7 (SH ho))];exact Q
 done:=by
  intro X Y hw hK hc i J s σ H E I M st S;subst Y hw hK;obtain⟨xs,L,T⟩:=S;obtain⟨r,rv,p,hz⟩:=I.tuple L;obtain⟨⟨old,f⟩,c⟩:=st;obtain⟨Q,U,f2,f3,W,f5⟩:=M it (by simp);have hl:=rv.length;have hh:=I.ok.hd hc;refine wf f (λA' Z Q' E' t=>qR (Z.trans hh) c (show s.heap.IsTuple a r.toArray from p) (by simp;nofun) t) λg k=>⟨rfl,I.turned (t':=s.toks) (λb o d z=>k b o d z) Q U f3 W f5⟩
 self:=λ_ _ _ _ _ st h=>let⟨⟨_,f⟩,_⟩:=st;Xj f h
section
variable {X:Cx}{p:Pos}
def jY(ds:List D):List D:=(Su ds.length).map λ(i:Nat)=>D.tup [.int i,ds.getD i .non]
def Oj(f:FE):FA:=λρ=>(f ρ).bind λd=>match d with
 | .tup ds=>p5 (jY ds)
 |_=>Sr
theorem Dc {K:SA}(b:SqT K W a xs)(c:Reps K W xs ds):pk K W (RX K a) (jY ds):=by
 have l:=c.length;have k:(jY ds).length=ds.length:=by simp[jY]
 refine⟨λi d H e s=>?_,λH s=>⟨_,ab.seqT s b,by nofun⟩⟩;have w:i<ds.length:=by rw[<-k];exact(SK.mp e).1
 have t:xs[i]? =p5 xs[i]:=SJ (by nofun);refine⟨⟨_,xs[i],ab.seqT s b,t⟩,λy v ⟨T,h,f,r⟩=>?_⟩;subst h;obtain⟨z,n,j⟩:=r _ (ab.seqT s b);subst j;refine⟨aJ f _,λhid p m=>?_⟩;have g:hid T=false:=by
  cases eh:hid T with
  |false=>rfl
  |true=>obtain⟨o,A⟩:=p T eh;nofun
 obtain⟨d',x,u⟩:=c.get' n;have q:d=.tup [.int i,d']:=by
  unfold jY at e;nofun
 rw[q];exact gL f g (.cons .int (.cons (u.mono m) .nil))
theorem HD {a:Expr}(h:DP X c .s a f)(M:X.mg "enumerate"=Sr)(D:Gl X "enumerate":=by rfl)(x:SF [a] X.env=[(Pa,eval a X.env)]:=by rfl):DIp X c (.Tuple es x1 tp) (.Call (.Name "enumerate" p) [a] [] pos) (Oj f):=by
 intro hid ρ B s σ H R I C;obtain⟨E,ds,m,q⟩:=C;unfold Oj at m;cases e1:f ρ with
 |none=>nofun
 |some z=>
  rw[e1] at m;cases z with
  |tup us=>
   cases m;refine Call_ (iR (u:=.type "enumerate") I D M (by rfl) (UU (bB (bn (h hid ρ) bW x pos B s σ H (λvs j=> ∃v,vs=[v]/\ab H j/\Rep X.K (vw j hid) v (.tup us)) I ⟨E,_,e1,λv j s' r=>⟨v,rfl,s',r⟩⟩) λvs i ⟨P,t,d,O,w,e,s',r⟩=>?_) x rfl));subst e;cases O with
   |cons L F=>
    cases F;cases r with
    |tup y J=>
     cases L;obtain⟨n,Q,N,hz⟩:=d.tuple (SqT.of (bU _ _ _ _ y));refine qS (show i.heap.IsTuple _ n.toArray from N) λg A l hsz G=>?_
     refine Xj A ⟨_,[i.heap.objs.size+1,i.heap.objs.size],_,_,t,rfl,d.kept (t':=i.toks) λb o e=>G b o e,yN _ _ _ (Ux (WH _)),⟨⟨_,A⟩,l⟩,λb k=>?_,q _ t s' (Dc (SqT.of y) J)⟩;rcases S6.mp k with rfl|k
     ·exact d.fpOk (W9 _) (d.hok.fresh (W9 _))
     ·have:b=i.heap.objs.size:=by simpa using k
      subst this;exact d.fpOk (SB _) (d.hok.fresh (SB _))
  |_=>nofun
end
open PySem PySem.W PySem.Calls PyProof.Rows
def tV(i:Nat)(g:FE):GE:=λρ=>match g ρ with
 |some (.lst zs)=>(match fW i ρ with
  |some bs=>if bs.length+zs.length<=SU then p5 (.non,fu i (bs++zs) ρ) else Sr
  |none=>Sr)
 |_=>Sr
theorem CT{ρ ρ':aB}{d:D}(h:tV i g ρ=p5 (d,ρ')): ∃zs bs,g ρ=p5 (.lst zs)/\fW i ρ=p5 bs/\bs.length+zs.length<=SU/\d=.non/\ρ'=fu i (bs++zs) ρ:=by
 unfold tV at h;split at h
 ·split at h
  ·nofun
  nofun
 nofun
section
variable {X:Cx}{apos pos:Pos}
theorem JW(i:Nat)(he:DP X c .n e g)
 (S:X.N[i]? =p5 y:=by rfl) (hv:lW X.env.scope y:=by first|exact TL rfl|exact Te (TL rfl)|exact Te (Te rfl)) (R:(y==("__debug__":Str))=false:=by decide) (C:(y==("__classdict__":Str))=false:=by decide)
 (j:UG (.Name y py) "extend" X.env (eval (.Name y py) X.env)=eval (.Name y py) X.env:=by rfl)
 (k:((Ul pos (SF [e] X.env)).all (λx=> !x.1)&&(XO pos (V7 [] X.env)).all (λx=>x.1.isSome)
   &&Oo ([e].length+([]:List VI).length+(if([]:List VI).isEmpty then 0 else 1)<30))=true:=by rfl)
 (h:(apos.endLine==pos.line)=true:=by rfl) (E:SF [e] X.env=(Pa,eval e X.env)::SF [] X.env:=by rfl) (f:(Ul pos (SF [] X.env)).any (·.1)=false:=by rfl):
 DE X c .s (.Call (.Attribute (.Name y py) "extend" apos) [e] [] pos) (tV i g):=λhid ρ=>
 PE.imp (xJ VZ PySem.F.slot_list_extend PySem.F.type_list_extend CU (pv i S hv R C) (bn (he hid ρ) bW E) j k h E f) λσ H Q D=>by
  obtain⟨u,d,ρ',A,q⟩:=D;obtain⟨zs,bs,O,J,U,rfl,rfl⟩:=CT A;obtain⟨a,xs0,I,L,V,W,a5⟩:=u.held J;refine⟨.ref a,I,.inl ⟨rfl,_,SqL.of L⟩,u,_,O,λv r t M=>?_⟩;obtain⟨l,B,P,z,rfl,n1,T,Y⟩:=M;cases z;have p:Reps X.K (vw r hid) B zs:=Y.mono (fy λb w=>cg w);have m:Reps X.K (vw r hid) xs0 bs:=W.mono (aC t);refine⟨a,l,xs0,B,rfl,rfl,t _ _ L,T,by rw[m.length,p.length];exact U,?_⟩;have Z:vw (aW r a (.lst (xs0++B))) hid=vw r hid:=bV V;refine q .non _ ⟨λb o z G=>?_,(u.ext t).put J I (λb o z G=>by rw[az G];exact z) aA (by rw[Z];exact m.append p),.non⟩;rw[az (λe=>by nofun)];exact t _ _ z
end
def ML {α:Type}(d:α)(n:Nat):Option α:=if n<=SU then p5 d else Sr
def RF {α:Type}(d:α)(n:Nat):Option α:=if n<SU then p5 d else Sr
theorem jg {α:Type}{d:α}{n:Nat}(h:n<=1000):ML d n=p5 d:=if_pos (Va (fC h))
theorem sG {α:Type}{d:α}{n:Nat}(h:n<=1000):RF d n=p5 d:=if_pos (fC h)
theorem K5(a:FA)(ρ:aB):cQ a ρ=(a ρ).bind λds=>ML (.tup ds) ds.length:=rfl
theorem B6(a:FA)(ρ:aB):cD a ρ=(a ρ).bind λds=>ML (.lst ds) ds.length:=rfl
theorem Ez(m:Nat)(a:FA)(g:FG)(p:FT)(f:FE)(ρ:aB):bT m a g p f ρ=(a ρ).bind λds=>(ML Unit.unit ds.length).bind λ_=>(cU g p f (ρ++SN m .no) ds).map D.lst:=by
 grind[bT,ML]
theorem BW(bs:List D)(d:D):mj bs [d]=RF (.non,bs++[d]) bs.length:=rfl
theorem IT(bs:List D)(i:Int):rg bs [.int i]=(ML Unit.unit bs.length).bind λ_=>(vW bs.length i).bind λj=>(bs[j]?).map λd=>(d,bs.eraseIdx j):=by
 grind[rg,ML]
def OT(ds:List D):Option (List D):=match ds with
 | [.int j]=>if j.natAbs<4000000000 then p5 (CQ 0 j.toNat) else Sr
 |_=>Sr
theorem xo(f:FA)(ρ:aB):cL f ρ=(f ρ).bind OT:=rfl
theorem xr {j:Int}(h:j.natAbs<=1000):OT [.int j]=p5 (CQ 0 j.toNat):=by
 show(if j.natAbs<4000000000 then p5 (CQ 0 j.toNat) else Sr)=_;lia
theorem dW(i j:Int):bG (.int i) (.int j)=p5 (.int (i+j)):=rfl
theorem du(i j:Int):cw (.int i) (.int j)=p5 (.int (i-j)):=rfl
theorem oE(i j:Int):nW (.int i) (.int j)=p5 (.bl (Oo (i<j))):=rfl
theorem Kq(i j:Int):OZ (.int i) (.int j)=p5 (.bl (Oo (i<=j))):=rfl
theorem uW(i j:Int):FK (.int i) (.int j)=p5 (.bl (Oo (j<i))):=rfl
theorem BD(i j:Int):Rr (.int i) (.int j)=p5 (.bl (Oo (j<=i))):=rfl
theorem cC(h:0<j):bp (.int i) (.int j)=p5 (.int (i % j)):=by
 simp_all[bp,i2]
theorem eP {i j:Int}(a:i.natAbs<10^200)(b:j.natAbs<10^200):eV (.int i) (.int j)=p5 (.int (i*j)):=by
 unfold eV i2;lia
theorem tm {i j:Int}(a:0<j)(b:j.natAbs<10^200):k9 (.int i) (.int j)=p5 (.int (i / j)):=by
 unfold k9 i2;lia
theorem kT {i j:Int}(b:0<=j)(a:j<=1000000)(c:i.natAbs<2^64):ft (.int i) (.int j)=p5 (.int (i^j.toNat)):=by
 simp_all[ft,i2]
theorem jP(h:d7 x<=32)(g:d7 y<=32:=by first|assumption|simp[d7,bM]):vL x y=some (.bl (ig x y)):=if_pos ⟨h,g⟩
theorem mC(h:d7 x<=32)(g:d7 y<=32:=by first|assumption|simp[d7,bM]):uD x y=some (.bl (!ig x y)):=if_pos ⟨h,g⟩
theorem ko(i j:Int):ig (.int i) (.int j)=Oo (i=j):=by
 rfl
theorem eZ(i:Int):d7 (.int i)=0:=by rfl
structure Bag(N:Nat)(a b:Int):Prop where
 a0:0<=a
 a1:a.natAbs<10^180
 b0:0<=b
 b1:b<=N
 lo:b≠0->a.natAbs<2147483647
abbrev bc(a b:Int):List D:=[.int a,.int b]
def vE:FS:=
 aF (gm (bJ (ar nW (ah 1) (au dO (af (ah 0) (aj))))) (bX (ar bt (ah 0) (ah 1))) (el))
 (bX (aH (.int 0)))
def gh:List D->Option D:=bL .s 2 vE
def Fd:FS:=
 aF (br 2 (ar bp (au yv (af (au (nF 2 gh) (af (ah 0) (af (ah 1) (aj)))) (aj))) (ar eV (ar eV (ar ft (aH (.int 10)) (aH (.int 60))) (ar ft (aH (.int 10)) (aH (.int 60)))) (ar ft (aH (.int 10)) (aH (.int 60))))))
 (aF (gm (bJ (ar Rr (ah 2) (ar ft (aH (.int 10)) (aH (.int 18))))) (bX (cD (af (ah 2) (af (aH (.int 0)) (aj))))) (el))
 (aF (br 3 (ar bp (ar bG (ar bG (ah 2) (ar eV (aH (.int 7919)) (ah 1))) (aH (.int 17))) (aH (.int 2147483647))))
 (aF (h8 (c8 (cL (af (au rX (af (au dO (af (ah 0) (aj))) (af (aH (.int 9)) (aj)))) (aj)))) (gN 4) (br 3 (ar bp (ar bG (ar bG (ar ft (ah 3) (aH (.int 5))) (ar bp (ar bt (ah 0) (ah 4)) (aH (.int 2147483629)))) (ar eV (aH (.int 31)) (ah 4))) (aH (.int 2147483647)))))
 (bX (cD (af (ah 3) (af (aH (.int 1)) (aj))))))))
def He:List D->Option D:=bL .n 5 Fd
def vc:FS:=
 aF (gm (bJ (ar vL (ar bt (cR 0) (aH (.int 1))) (aH (.int 0)))) (aF (br 2 (ar bp (ar bt (cR 0) (aH (.int 0))) (ah 1)))
 (aF (eF (cA 0 (aH (.int 0))) (pu (ar k9 (ar bt (cR 0) (aH (.int 0))) (ah 1))))
 (bX (ah 2)))) (el))
 (aF (eF (cA 0 (aH (.int 0))) (pu (ar bp (ar bG (ar bG (ar ft (ar bt (cR 0) (aH (.int 0))) (aH (.int 5))) (ar eV (aH (.int 48271)) (ar bt (cR 0) (aH (.int 1))))) (aH (.int 11))) (aH (.int 2147483647)))))
 (aF (eF (cA 0 (aH (.int 1))) (pu (ar bG (ar bt (cR 0) (aH (.int 1))) (aH (.int 1)))))
 (bX (ar bp (ar k9 (ar bp (ar eV (ar bt (cR 0) (aH (.int 0))) (aH (.int 69621))) (aH (.int 2147483629))) (aH (.int 8))) (ah 1)))))
def dw:List D->List D->Option (D×List D):=xZ .s 3 vc
def wF:FS:=
 aF (dh 2 (HH (ah 1)))
 (aF (dh 3 (cD (aj)))
 (aF (jA (bJ (ar uD (cR 2) (cD (aj)))) (cz (aV 3 1 mj (ia (aV 2 1 rg (ia (aV 0 1 dw (c8 (af (au dO (af (cR 2) (aj))) (aj)))) (c8 (aj)))) (c8 (aj))))) 16)
 (C8 3)))
def gQ:List D->List D->Option (D×List D):=xZ .n 4 wF
theorem dB {i m:Int}(h:0<m):0<=i % m/\i % m<m:=⟨Int.emod_nonneg _ (by grind),jat _ h⟩
theorem jd {N:Nat}{a b m:Int}(B:Bag N a b)(D:N<=1000000000)(c:0<m)(e:m.natAbs<10^20): ∃d j b',dw (bc a b) [.int m]=p5 (.int d,bc j b')/\Bag (N+1) j b'/\0<=d/\d<m:=by
 have h:m.natAbs<10^200:=SQ e (by simp)
 by_cases f:b=0
 ·subst f;refine⟨a % m,a / m,0,?_,⟨jcn B.a0 ⋯,?_,by simp,⋯,λz=>absurd rfl z⟩,dB c⟩
  ·simp[dw,xZ,vc,oY,bc,aF,gm,bJ,ar,bt,cR,ah,aH,jP,ko,eZ,DL,qH,vW,br,cC c,eF,pu,tm c h,cA,fW,fu,MT,bX,qt]
  ·have C:=B.a1;have:a / m<=a:=Int.ediv_le_self _ B.a0;have:0<=a / m:=jcn B.a0 ⋯;omega
 ·have x:=B.lo f;have t:a.natAbs<2^64:=Zi x (by simp);have s:b.natAbs<10^200:=SQ (show b.natAbs<10^10 by have:=B.b1;have:=B.b0;lia) (by simp);generalize y:(a^5+48271*b+11) % 2147483647=A;have g:0<=A/\A<2147483647:=by lia
  have l:A.natAbs<10^200:=SQ (show A.natAbs<10^10 by grind) (by simp);refine⟨A*69621 % 2147483629 / 8 % m,A,b+1,?_,⟨g.1,?_,by have:=B.b0;lia,by have:=B.b1;nofun,λ_=>⋯⟩,dB c⟩
  ·have q:(48271:Int).natAbs<10^200:=SQ (show(48271:Int).natAbs<10^10 by simp) (by simp);have n:(69621:Int).natAbs<10^200:=SQ (show(69621:Int).natAbs<10^10 by simp) (by simp);have w:(8:Int).natAbs<10^200:=SQ (show(8:Int).natAbs<10^10 by simp) (by simp);have p:ft (.int a) (.int 5)=p5 (.int (a^5)):=kT (by simp) (by simp) t;have u:eV (.int 48271) (.int b)=p5 (.int (48271*b)):=eP q s;have o: ∀i:Int,bp (.int i) (.int 2147483647)=p5 (.int (i % 2147483647)):=λi=>cC (by simp)
   have k: ∀i:Int,bp (.int i) (.int 2147483629)=p5 (.int (i % 2147483629)):=λi=>cC (by simp)
   have v:eV (.int A) (.int 69621)=p5 (.int (A*69621)):=eP l n;have r: ∀i:Int,k9 (.int i) (.int 8)=p5 (.int (i / 8)):=λi=>tm (by simp) w
   simp[dw,xZ,vc,oY,bc,aF,gm,bJ,ar,bt,cR,ah,aH,jP,ko,eZ,DL,qH,vW,f,el,p,u,o,k,dW,eF,pu,cA,fW,fu,MT,bX,qt,y,v,r,cC c]
  lia
theorem ao{ρ ρ':aB}(h:t ρ=.nx ρ'):aF t u ρ=u ρ':=by grind[aF]
theorem G3(h:t ρ=.rt d ρ'):aF t u ρ=.rt d ρ':=by unfold aF;rw[h]
abbrev nI(i:Nat):D:=.int (i:Int)
abbrev j8(ns:List Int):D:=.scr (ns.map D.int)
theorem HZ(n:Nat):CQ 0 n=(Su n).map nI:=by
 simp[CQ]
theorem iZ(h:j<n):vW n (j:Int)=p5 j:=by
 unfold vW;nofun
theorem J8(ns:List Int)(k:Nat): ∃c,gh [j8 ns,nI k]=p5 (.int c):=by
 by_cases h:k<ns.length
 ·refine⟨ns[k],?_⟩;simp[gh,bL,vE,mK,aF,gm,bJ,ar,ah,au,af,aj,dO,oE,DL,h,bX,bt,qH,iZ (show k<(ns.map D.int).length by nofun)];simp[iZ h,h]
 ·refine⟨0,?_⟩;simp[gh,bL,vE,mK,aF,gm,bJ,ar,ah,au,af,aj,dO,oE,DL,h,bX,el,aH]
theorem xm(ns:List Int)(k:D)(c:D): ∀(l:List Nat),(∀i∈l,i<ns.length/\i<1000)-> ∀(x:Int) (d:Sl),0<=x->x<2147483647-> ∃(b:Int) (a:Sl),0<=b/\b<2147483647/\
 cu (gN 4) (br 3 (ar bp (ar bG (ar bG (ar ft (ah 3) (aH (.int 5))) (ar bp (ar bt (ah 0) (ah 4)) (aH (.int 2147483629)))) (ar eV (aH (.int 31)) (ah 4))) (aH (.int 2147483647)))) (l.map nI) [.v (j8 ns),.v k,.v c,.v (.int x),d]=.nx [.v (j8 ns),.v k,.v c,.v (.int b),a]
 | [],_,x,d,f,e=>⟨x,d,f,e,rfl⟩
 |i::l,g,x,d,f,e=>by
  obtain⟨h,q⟩:=g i (by simp);have r:ft (.int x) (.int 5)=p5 (.int (x^5)):=kT (by simp) (by simp) (SQ (show x.natAbs<10^10 by lia) (by simp));have u:eV (.int 31) (nI i)=p5 (.int (31*i)):=eP (SQ (show(31:Int).natAbs<10^10 by simp) (by simp)) (SQ (show(i:Int).natAbs<10^10 by omega) (by simp));have p: ∀i:Int,bp (.int i) (.int 2147483647)=p5 (.int (i % 2147483647)):=λi=>cC (by simp)
  have n: ∀i:Int,bp (.int i) (.int 2147483629)=p5 (.int (i % 2147483629)):=λi=>cC (by simp)
  obtain⟨o,y⟩:=dB (i:=x^5+ns[i] % 2147483629+31*i) (m:=2147483647) (by simp);obtain⟨b,a,z,s,t⟩:=xm ns k c l (λj w=>g j (by simp[w])) _ (.v (nI i)) o y;refine⟨b,a,z,s,?_⟩;rw[<-t];simp[cu,gN,br,ar,ah,aH,r,u,p,n,bt,qH,iZ (show i<(ns.map D.int).length by nofun),iZ h,h,dW]
theorem MJ(ns:List Int)(k:Nat)(O:k<=1000)(J:ns.length<=63): ∃a b,He [j8 ns,nI k]=p5 (.lst (bc a b))/\Bag 1 a b:=by
 obtain⟨c,p⟩:=J8 ns k;have G:ft (.int 10) (.int 60)=p5 (.int (10^60)):=kT (by simp) (by simp) (by simp);have t:ft (.int 10) (.int 18)=p5 (.int (10^18)):=kT (by simp) (by simp) (by simp);have e:((10:Int)^60).natAbs<10^200:=by simp
 have h:((10:Int)^60*10^60).natAbs<10^200:=by simp
 have B:eV (.int (10^60)) (.int (10^60))=p5 (.int (10^60*10^60)):=eP e e;have E:eV (.int (10^60*10^60)) (.int (10^60))=p5 (.int (10^60*10^60*10^60)):=eP h e;have y:eV (.int 7919) (nI k)=p5 (.int (7919*k)):=eP (SQ (show(7919:Int).natAbs<10^10 by simp) (by simp)) (SQ (show(k:Int).natAbs<10^10 by omega) (by simp));generalize C:(if c<0 then -c else c) % (10^60*10^60*10^60)=A;have j:0<=A/\A<10^60*10^60*10^60:=by rw[<-C];exact dB (by simp)
 have u:br 2 (ar bp (au yv (af (au (nF 2 gh) (af (ah 0) (af (ah 1) (aj)))) (aj))) (ar eV (ar eV (ar ft (aH (.int 10)) (aH (.int 60))) (ar ft (aH (.int 10)) (aH (.int 60)))) (ar ft (aH (.int 10)) (aH (.int 60))))) [.v (j8 ns),.v (nI k),.no,.no,.no]=.nx [.v (j8 ns),.v (nI k),.v (.int A),.no,.no]:=by
  have q: ∀i:Int,bp (.int i) (.int (10^60*10^60*10^60))=p5 (.int (i % (10^60*10^60*10^60))):=λi=>cC (by simp)
  unfold br;have:ar bp (au yv (af (au (nF 2 gh) (af (ah 0) (af (ah 1) (aj)))) (aj))) (ar eV (ar eV (ar ft (aH (.int 10)) (aH (.int 60))) (ar ft (aH (.int 10)) (aH (.int 60)))) (ar ft (aH (.int 10)) (aH (.int 60)))) [.v (j8 ns),.v (nI k),.no,.no,.no]=p5 (.int A):=by
   have I:au (nF 2 gh) (af (ah 0) (af (ah 1) aj)) [.v (j8 ns),.v (nI k),.no,.no,.no]=p5 (.int c):=p;simp only[ar,au,af,aj,aH,SG,G,B,E,yv];have n:((ah 0 [.v (j8 ns),.v (nI k),.no,.no,.no]).bind λd=>((ah 1 [.v (j8 ns),.v (nI k),.no,.no,.no]).bind λd=>(p5 []).map λr=>d::r).map λr=>d::r).bind (nF 2 gh)=p5 (.int c):=p;rw[n];grind[yv]
  nofun
 have H:mK 5 [j8 ns,nI k]=[.v (j8 ns),.v (nI k),.no,.no,.no]:=rfl;unfold He bL Fd;rw[H,ao u];have f:A.natAbs<10^180:=by
  have:(10:Int)^60*10^60*10^60=((10^180:Nat):Int):=by simp
  grind
 by_cases o:(10:Int)^18<=A
 ·refine⟨A,0,?_,⟨j.1,f,by decide,by simp,λz=>absurd rfl z⟩⟩;simp only[aF,gm,bJ,ar,ah,V2,Vh,SG,aH,t,BD,DL,v3 o,bX,B6,af,aj,X0];rfl
 ·generalize s:(A+7919*(k:Int)+17) % 2147483647=x;have g:0<=x/\x<2147483647:=by rw[<-s];exact dB (by simp)
  have q:bp (.int (A+7919*(k:Int)+17)) (.int 2147483647)=p5 (.int x):=by rw[cC (by simp),s]
  have M:cL (af (au rX (af (au dO (af (ah 0) (aj))) (af (aH (.int 9)) (aj)))) (aj)) [.v (j8 ns),.v (nI k),.v (.int A),.v (.int x),.no]=p5 ((Su (min ns.length 9)).map nI):=by
   rw[xo];simp only[au,af,aj,ah,aH,Vh,SG,X0,dO,rX,SO];have:(if(9:Int)<(ns.length:Int) then(9:Int) else(ns.length:Int))=((min ns.length 9:Nat):Int):=by grind
   rw[this,xr ⋯,HZ,Vg]
  obtain⟨m,l,D,N,L⟩:=xm ns (nI k) (.int A) (Su (min ns.length 9)) (λi K=>by grind) x .no g.1 g.2;refine⟨m,1,?_,⟨D,SQ (show m.natAbs<10^10 by lia) (by simp),by simp,by simp,λ_=>⋯⟩⟩;have F:h8 (c8 (cL (af (au rX (af (au dO (af (ah 0) (aj))) (af (aH (.int 9)) (aj)))) (aj)))) (gN 4) (br 3 (ar bp (ar bG (ar bG (ar ft (ah 3) (aH (.int 5))) (ar bp (ar bt (ah 0) (ah 4)) (aH (.int 2147483629)))) (ar eV (aH (.int 31)) (ah 4))) (aH (.int 2147483647)))) [.v (j8 ns),.v (nI k),.v (.int A),.v (.int x),.no]=.nx [.v (j8 ns),.v (nI k),.v (.int A),.v (.int m),l]:=by
   unfold h8 c8;nofun
  have w:gm (bJ (ar Rr (ah 2) (ar ft (aH (.int 10)) (aH (.int 18))))) (bX (cD (af (ah 2) (af (aH (.int 0)) (aj))))) (el) [.v (j8 ns),.v (nI k),.v (.int A),.no,.no]=.nx [.v (j8 ns),.v (nI k),.v (.int A),.no,.no]:=by
   simp only[gm,bJ,ar,ah,V2,Vh,SG,aH,t,BD,DL,v7 o,el]
  have i2:br 3 (ar bp (ar bG (ar bG (ah 2) (ar eV (aH (.int 7919)) (ah 1))) (aH (.int 17))) (aH (.int 2147483647))) [.v (j8 ns),.v (nI k),.v (.int A),.no,.no]=.nx [.v (j8 ns),.v (nI k),.v (.int A),.v (.int x),.no]:=by
   simp only[br,ar,ah,V2,Vh,SG,aH,y,dW,q,List.set_cons_succ,List.set_cons_zero]
  rw[ao w,ao i2,ao F];rfl
theorem cn {i n:Nat}{M:List D->List D->Option (D×List D)}{ρ ρ1:aB}{b0 bs ds a:List D}{d:D}(b:fW i ρ=p5 b0)(e:fs ρ=p5 (ds,ρ1))(c:fW i ρ1=p5 bs)(f:ds.length=n)(g:M bs ds=p5 (d,a)):aV i n M fs ρ=p5 (d,fu i a ρ1):=by
 grind[aV]
theorem xy{ρ ρ1 ρ2:aB}{d:D}{ds:List D}(a:f ρ=p5 (d,ρ1))(b:fs ρ1=p5 (ds,ρ2)):ia f fs ρ=p5 (d::ds,ρ2):=by
 simp_all[ia,bE]
theorem bj{ds:List D}(h:f ρ=p5 ds):c8 f ρ=p5 (ds,ρ):=by grind[c8]
theorem nK(h:f ρ=p5 d):pu f ρ=p5 (d,ρ):=by grind[pu]
theorem sO {α β:Type}(f:α->β): ∀(l:List α) (j:Nat),(l.map f).eraseIdx j=(l.eraseIdx j).map f
 | [],_=>rfl
 |_::_,0=>rfl
 |x::l,j+1=>by simp[sO f l j]
theorem qv {α:Type}: ∀(l:List α) (j:Nat) (h:j<l.length),(l[j]::l.eraseIdx j).Perm l
 |_::_,0,_=>.refl _
 |x::l,j+1,h=>by
  have a:=qv l j (by nofun);exact(jdm _ _ _).trans (a.cons x)
theorem jS: ∀r:List Nat,bM (r.map nI)=0
 | []=>by rfl
 |a::r=>by
  simp[bM,jS,d7]
theorem xG(r:List Nat):d7 (.lst (r.map nI))<=32:=by grind[d7,jS]
abbrev RT:FS->Nat->FS:=λb n=>jA (bJ (ar uD (cR 2) (cD (aj)))) b n
abbrev BN:FS:=cz (aV 3 1 mj (ia (aV 2 1 rg (ia (aV 0 1 dw (c8 (af (au dO (af (cR 2) (aj))) (aj)))) (c8 (aj)))) (c8 (aj))))
theorem Pg(n:D)(b:List D)(left a:List Nat):bJ (ar uD (cR 2) (cD (aj))) [.arg b,.v n,.own (left.map nI),.own (a.map nI)]=p5 (!left.isEmpty):=by
 have c:cD aj [.arg b,.v n,.own (left.map nI),.own (a.map nI)]=p5 (.lst []):=by
  rfl
 unfold bJ ar;rw[c];simp only[cR,V2,Vh,SG];rw[mC (xG left)];cases left with
 |nil=>rfl
 |cons x r=>rfl
theorem En(n:D){N:Nat}(B:Bag N a b)(l:N<=1000000000)(left c:List Nat)(w:0<left.length)(s:left.length<=100)(r:c.length<=100):
 ∃(j:Nat) (h:j<left.length) (f b':Int),BN [.arg (bc a b),.v n,.own (left.map nI),.own (c.map nI)]=.nx [.arg (bc f b'),.v n,.own ((left.eraseIdx j).map nI),.own ((c++[left[j]]).map nI)]/\Bag (N+1) f b':=by
 obtain⟨d,f,b',e,o,t,x⟩:=jd (m:=left.length) B l (by nofun) (SQ (show(left.length:Int).natAbs<10^10 by grind) (by simp));obtain⟨j,rfl⟩: ∃j:Nat,d=(j:Int):=⟨d.toNat,⋯⟩
 have h:j<left.length:=by nofun
 refine⟨j,h,f,b',?_,o⟩;have k:rg (left.map nI) [.int (j:Int)]=p5 (nI left[j],(left.eraseIdx j).map nI):=by
  grind[IT,jg,iZ,sO]
 have p:mj (c.map nI) [nI left[j]]=p5 (.non,(c++[left[j]]).map nI):=by
  grind[BW,sG]
 have g:aV 0 1 dw (c8 (af (au dO (af (cR 2) (aj))) (aj))) [.arg (bc a b),.v n,.own (left.map nI),.own (c.map nI)]=p5 (nI j,[.arg (bc f b'),.v n,.own (left.map nI),.own (c.map nI)]):=by
  simp[aV,fW,c8,af,au,cR,aj,dO,e,fu]
 have q:aV 2 1 rg (ia (aV 0 1 dw (c8 (af (au dO (af (cR 2) (aj))) (aj)))) (c8 (aj))) [.arg (bc a b),.v n,.own (left.map nI),.own (c.map nI)]=p5 (nI left[j],[.arg (bc f b'),.v n,.own ((left.eraseIdx j).map nI),.own (c.map nI)]):=by
  refine(cn (i:=2) (n:=1) (b0:=left.map nI) (ds:=[nI j]) (ρ1:=[.arg (bc f b'),.v n,.own (left.map nI),.own (c.map nI)]) rfl (xy g rfl) rfl rfl k).trans rfl
 have u:aV 3 1 mj (ia (aV 2 1 rg (ia (aV 0 1 dw (c8 (af (au dO (af (cR 2) (aj))) (aj)))) (c8 (aj)))) (c8 (aj))) [.arg (bc a b),.v n,.own (left.map nI),.own (c.map nI)]=p5 (.non,[.arg (bc f b'),.v n,.own ((left.eraseIdx j).map nI),.own ((c++[left[j]]).map nI)]):=by
  refine(cn (i:=3) (n:=1) (b0:=c.map nI) (ds:=[nI left[j]]) (ρ1:=[.arg (bc f b'),.v n,.own ((left.eraseIdx j).map nI),.own (c.map nI)]) rfl (xy q rfl) rfl rfl p).trans rfl
 simp_all[BN,cz]
theorem Lz(n:D): ∀(f:Nat) (left c:List Nat) (N:Nat) (a b:Int),left.length<f->left.length<=50->c.length+left.length<=100->Bag N a b->N+left.length<=1000000000->
 ∃(o:List Nat) (d b':Int),RT BN f [.arg (bc a b),.v n,.own (left.map nI),.own (c.map nI)]=.nx [.arg (bc d b'),.v n,.own [],.own ((c++o).map nI)]/\o.Perm left/\Bag (N+left.length) d b'
 |0,left,c,N,a,b,h,_,_,_,_=>absurd h (WY _)
 |f+1,left,c,N,a,b,h,s,q,B,u=>by
  unfold RT jA;rw[Pg];cases e:left.isEmpty with
  |true=>
   have:left=[]:=by simpa using e
   subst this;exact⟨[],a,b,by simp,.refl _,by omega⟩
  |false=>
   have k:0<left.length:=by grind
   obtain⟨j,w,i,g,r,l⟩:=En n B (by grind) left c k ⋯ (by grind);have y:(left.eraseIdx j).length=left.length-1:=by grind
   obtain⟨o,x,m,t,p,z⟩:=Lz n f (left.eraseIdx j) (c++[left[j]]) (N+1) i g (by grind) ⋯ (by simp;lia) l ⋯;grind[qv]
structure Ord(n:Nat)(r:List Nat):Prop where
 perm:r.Perm (Su n)
theorem Ord.len {n:Nat}{r:List Nat}(o:Ord n r):r.length=n:=by rw[o.perm.length_eq];simp
theorem Ord.lt {n:Nat}(o:Ord n r){v:Nat}(h:v∈r):v<n:=by simpa using o.perm.mem_iff.mp h
theorem Ord.has(o:Ord n r){v:Nat}(h:v<n):v∈r:=o.perm.mem_iff.mpr (by nofun)
theorem Ord.nd {n:Nat}{r:List Nat}(o:Ord n r):r.Nodup:=o.perm.nodup_iff.mpr Uo
theorem zZ {n:Nat}(h:n<=1000)(f:FE)(ρ:aB)(e:f ρ=p5 (nI n)):HH f ρ=p5 (.lst ((Su n).map nI)):=by
 unfold HH K4;rw[e];simp only[SG];rw[if_pos ⋯,HZ];rfl
theorem wx {N:Nat}(B:Bag N a b){n:Nat}(j:n<=12)(h:N<=900000000): ∃(o:List Nat) (c b':Int),gQ (bc a b) [nI n]=p5 (.lst (o.map nI),bc c b')/\Ord n o/\Bag (N+n) c b':=by
 obtain⟨o,c,b',e,p,k⟩:=Lz (nI n) 16 (Su n) [] N a b (by simp;grind) (by simp;lia) (by simp;grind) B (by simp;lia);refine⟨o,c,b',?_,⟨p⟩,by nofun⟩;have g:oY 4 (bc a b) [nI n]=[.arg (bc a b),.v (nI n),.no,.no]:=rfl;have d:dh 2 (HH (ah 1)) [.arg (bc a b),.v (nI n),.no,.no]=.nx [.arg (bc a b),.v (nI n),.own ((Su n).map nI),.no]:=by
  unfold dh;rw[zZ (n:=n) ⋯ (ah 1) _ rfl];rfl
 have f:dh 3 (cD (aj)) [.arg (bc a b),.v (nI n),.own ((Su n).map nI),.no]=.nx [.arg (bc a b),.v (nI n),.own ((Su n).map nI),.own []]:=by
  rfl
 unfold gQ xZ wF;rw[g,ao d,ao f];have i:jA (bJ (ar uD (cR 2) (cD (aj)))) BN 16 [.arg (bc a b),.v (nI n),.own ((Su n).map nI),.own []]=.nx [.arg (bc c b'),.v (nI n),.own [],.own (o.map nI)]:=e;grind[ao,C8,yX,qt]
theorem ax{x y:D}(a:f ρ=p5 x)(b:g ρ=p5 y):ar F f g ρ=F x y:=by unfold ar;nofun
theorem BC{ρ ρ1 ρ2:aB}(a:f ρ=p5 (x,ρ1))(c:g ρ1=p5 (y,ρ2))(b:F x y=p5 d):oM F f g ρ=p5 (d,ρ2):=by
 unfold oM bE;nofun
theorem aY{ρ:aB}{d:D}(h:f ρ=p5 d):br i f ρ=.nx (ρ.set i (.v d)):=by unfold br;rw[h]
theorem f6 {i:Nat}{ρ ρ1:aB}(h:f ρ=p5 (d,ρ1)):fM i f ρ=.nx (ρ1.set i (.v d)):=by unfold fM;rw[h]
theorem J7 {i:Nat}{ρ ρ1:aB}{ds:List D}(h:f ρ=p5 (.lst ds,ρ1)):yn i f ρ=.nx (ρ1.set i (.own ds)):=by unfold yn;rw[h];rfl
theorem dS {i:Nat}{ρ:aB}{ds:List D}(h:f ρ=p5 (.lst ds)):dh i f ρ=.nx (ρ.set i (.own ds)):=by unfold dh;rw[h];rfl
theorem cJ{ds:List D}(h:f ρ=p5 ds)(a:ds.length<=1000):cQ f ρ=p5 (.tup ds):=by
 rw[K5,h,SG,jg a]
theorem jj{ds:List D}(h:f ρ=p5 ds)(a:ds.length<=1000):cD f ρ=p5 (.lst ds):=by
 rw[B6,h,SG,jg a]
theorem al{d:D}{ds:List D}(a:f ρ=p5 d)(b:fs ρ=p5 ds):af f fs ρ=p5 (d::ds):=by unfold af;nofun
theorem cy{ds:List D}(h:f ρ=p5 ds):au F f ρ=F ds:=by unfold au;rw[h];rfl
theorem LS {r:List Nat}(h:c<r.length):qH (r.map nI) (c:Int)=p5 (nI (r.getD c 0)):=Kw (by nofun)
theorem tf {r:List Nat}(h:c<r.length):bt (.lst (r.map nI)) (nI c)=p5 (nI (r.getD c 0)):=LS h
theorem fI {r:List Nat}(h:c<r.length):bt (.tup (r.map nI)) (nI c)=p5 (nI (r.getD c 0)):=LS h
theorem jT(a b:Nat):ig (nI a) (nI b)=Oo (a=b):=by
 rw[ko];lia
theorem MC(a b:Nat):bG (nI a) (nI b)=p5 (nI (a+b)):=by rfl
theorem QZ(a:Nat):bG (nI a) (.int 1)=p5 (nI (a+1)):=by rfl
theorem Lc(h:0<n):bp (nI a) (nI n)=p5 (nI (a % n)):=by rw[cC (by nofun)];rfl
theorem gJ{bs:List D}{j:Nat}(a:fW i ρ=p5 bs)(c:fi ρ=p5 (nI j))(b:j<bs.length):cA i fi d ρ=p5 (fu i (bs.set j d) ρ):=by
 unfold cA;rw[a];dsimp only;grind[iZ]
theorem oT(x:List Nat)(j v:Nat):(x.map nI).set j (nI v)=(x.set j v).map nI:=by simp
def x9(n:Nat)(r x:List Nat)(c:Nat):List Nat:=if x.getD c 0=r.getD c 0 then(x.set c (x.getD ((c+1) % n) 0)).set ((c+1) % n) (x.getD c 0) else x
abbrev B7:FS:=aF (br 7 (ar bp (ar bG (ah 6) (aH (.int 1))) (ah 1)))
 (gm (bJ (ar vL (ar bt (cR 5) (ah 6)) (ar bt (ah 4) (ah 6)))) (eF (gT 2 (ij (cA 5 (ah 6)) (ij (cA 5 (ah 7)) (m9)))) (pu (cQ (af (ar bt (cR 5) (ah 7)) (af (ar bt (cR 5) (ah 6)) (aj)))))) (el))
theorem GN(a:List D)(p q:D)(n:Nat)(r x:List Nat)(c:Nat)(b:Sl)(l:r.length=n)(h:x.length=n)(k:c<n):
 B7 [.arg a,.v (nI n),.v p,.v q,.v (.lst (r.map nI)),.own (x.map nI),.v (nI c),b]=.nx [.arg a,.v (nI n),.v p,.v q,.v (.lst (r.map nI)),.own ((x9 n r x c).map nI),.v (nI c),.v (nI ((c+1) % n))]:=by
 have i:(c+1) % n<n:=UM _ ⋯;have g:br 7 (ar bp (ar bG (ah 6) (aH (.int 1))) (ah 1)) [.arg a,.v (nI n),.v p,.v q,.v (.lst (r.map nI)),.own (x.map nI),.v (nI c),b]=.nx [.arg a,.v (nI n),.v p,.v q,.v (.lst (r.map nI)),.own (x.map nI),.v (nI c),.v (nI ((c+1) % n))]:=
  (aY ((ax (ax (x:=nI c) (y:=.int 1) rfl rfl |>.trans (QZ c)) (y:=nI n) rfl).trans (Lc (by grind)))).trans rfl
 unfold B7;rw[ao g];have d:ar bt (cR 5) (ah 6) [.arg a,.v (nI n),.v p,.v q,.v (.lst (r.map nI)),.own (x.map nI),.v (nI c),.v (nI ((c+1) % n))]=p5 (nI (x.getD c 0)):=(ax (x:=.lst (x.map nI)) (y:=nI c) rfl rfl).trans (tf (by nofun));have i2:ar bt (ah 4) (ah 6) [.arg a,.v (nI n),.v p,.v q,.v (.lst (r.map nI)),.own (x.map nI),.v (nI c),.v (nI ((c+1) % n))]=p5 (nI (r.getD c 0)):=(ax (x:=.lst (r.map nI)) (y:=nI c) rfl rfl).trans (tf (by nofun));have f:ar bt (cR 5) (ah 7) [.arg a,.v (nI n),.v p,.v q,.v (.lst (r.map nI)),.own (x.map nI),.v (nI c),.v (nI ((c+1) % n))]=p5 (nI (x.getD ((c+1) % n) 0)):=(ax (x:=.lst (x.map nI)) (y:=nI ((c+1) % n)) rfl rfl).trans (tf (by nofun));unfold gm bJ;rw[ax d i2,jP (by rw[eZ];simp),jT]
 by_cases e:x.getD c 0=r.getD c 0
 ·rw[v3 e];simp only[DL];unfold eF;rw[nK (cJ (al f (al d rfl)) (by simp))];simp only[gT,SX,VD,ij];unfold x9;rw[if_pos e];rw[gJ (bs:=x.map nI) (j:=c) rfl rfl (by nofun)];simp only[SG];rw[gJ (bs:=(x.map nI).set c (nI (x.getD ((c+1) % n) 0))) (j:=(c+1) % n) rfl rfl (by simp;nofun)];simp only[SG,m9,oT];rfl
 ·rw[v7 e];simp only[DL,el];unfold x9;rw[if_neg e]
theorem swap_perm(x:List Nat)(c d:Nat)(b:c<x.length)(a:d<x.length):((x.set c (x.getD d 0)).set d (x.getD c 0)).Perm x:=by
 simpa [Array.swap,VW,b,a] using (Array.swap_perm (xs:=x.toArray) (i:=c) (j:=d) b a).toList
theorem yi {x:List Nat}(h:x.Nodup)(a:i<x.length)(b:j<x.length)(e:x.getD i 0=x.getD j 0):i=j:=by
 have:x[i]=x[j]:=by simpa [VW,a,b] using e
 exact(jbx h).mp this
theorem Ord.fix{r x:List Nat}(or:Ord n r)(d:Ord n x){c:Nat}(l:c<n)(m:2<=n):Ord n (x9 n r x c)/\((∀i,i<c->x.getD i 0≠r.getD i 0)-> ∀i,i<c+1->(x9 n r x c).getD i 0≠r.getD i 0):=by
 have f:=d.len;have q:=or.len;have k:(c+1) % n<n:=UM _ ⋯;have o: ∀i,i<n->x.getD i 0=x[i]! :=λi j=>by simp
 unfold x9
 by_cases e:x.getD c 0=r.getD c 0
 ·rw[if_pos e];have p:(c+1) % n≠c:=by
   by_cases h:c+1<n
   ·rw[WJ h];simp
   ·grind[Nat.mod_self]
  refine⟨⟨(swap_perm x c _ (by nofun) (by nofun)).trans d.perm⟩,λh i j=>?_⟩;have g:((x.set c (x.getD ((c+1) % n) 0)).set ((c+1) % n) (x.getD c 0)).getD i 0=if i=(c+1) % n then x.getD c 0 else if i=c then x.getD ((c+1) % n) 0 else x.getD i 0:=by
   simp only[VW,jbm,List.length_set]
   by_cases a:(c+1) % n=i
   ·subst a;simp[f,k]
   ·rw[if_neg a,if_neg (To a)]
    by_cases b:c=i
    ·subst b;simp[f,l]
    ·grind
  rw[g]
  by_cases a:i=(c+1) % n
  ·rw[if_pos a,e];intro z;have:=yi or.nd (by nofun) (by nofun) z;lia
  ·rw[if_neg a]
   by_cases b:i=c
   ·rw[if_pos b,b,<-e];intro z;have:=yi d.nd (by grind) (by grind) z;nofun
   ·rw[if_neg b];exact h i ⋯
 ·rw[if_neg e];refine⟨d,λh i j=>?_⟩;grind
theorem Lu(f:List D)(p q:D){r:List Nat}(or:Ord n r)(t:2<=n): ∀(k c:Nat) (x:List Nat) (j d:Sl),c+k=n->Ord n x->(∀i,i<c->x.getD i 0≠r.getD i 0)->
 ∃(g:List Nat) (o s:Sl),cu (gN 6) B7 ((Xa c k).map nI) [.arg f,.v (nI n),.v p,.v q,.v (.lst (r.map nI)),.own (x.map nI),j,d]=.nx [.arg f,.v (nI n),.v p,.v q,.v (.lst (r.map nI)),.own (g.map nI),o,s]/\Ord n g/\ ∀i,i<n->g.getD i 0≠r.getD i 0
 |0,c,x,j,d,h,l,m=>⟨x,j,d,rfl,l,λi h'=>m i (by nofun)⟩
 |k+1,c,x,j,d,h,l,m=>by
  obtain⟨u,y⟩:=or.fix l (c:=c) (by grind) t;obtain⟨g,a,b,e,w,z⟩:=Lu f p q or t k (c+1) (x9 n r x c) (.v (nI c)) (.v (nI ((c+1) % n))) ⋯ u (y m);refine⟨g,a,b,?_,w,z⟩;rw[jbG,SD];unfold cu;have:gN 6 (nI c) [.arg f,.v (nI n),.v p,.v q,.v (.lst (r.map nI)),.own (x.map nI),j,d]=p5 [.arg f,.v (nI n),.v p,.v q,.v (.lst (r.map nI)),.own (x.map nI),.v (nI c),d]:=rfl;rw[this];dsimp only;rw[GN f p q n r x c d or.len l.len (by grind)];exact e
theorem cZ {α:Type}{g:FG}{f:FE}{b:aB}{h o:α->D}: ∀(l:List α),(∀i∈l,∃ρ1,g (h i) b=p5 ρ1/\f ρ1=p5 (o i))->cU g fG f b (l.map h)=p5 (l.map o)
 | [],_=>rfl
 |a::l,H=>by
  obtain⟨ρ1,d,c⟩:=H a (by simp);have j:=cZ l λi e=>H i (by simp[e])
  rw[SD];unfold cU;rw[d,SG];simp only[fG,SG,if_true,c,j];rfl
theorem dm{ds ys:List D}(a:gi ρ=p5 ds)(c:ds.length<=1000)(b:cU g p f (ρ++SN m .no) ds=p5 ys):bT m gi g p f ρ=p5 (.lst ys):=by
 grind[Ez,jg]
theorem ID: ∀n,2<=n->n<=6-> ∀b,1<=b->b<n->Ord n ((Su n).map λi=>(i+b) % n):=by
 intro n c a b d e;refine⟨?_⟩;have: ∀n:_root_.Fin 7,∀b:_root_.Fin 7,((Su n.val).map λi=>(i+b.val) % n.val).isPerm (Su n.val)=S1\/ ¬(b.val<n.val):=by decide
 rcases this ⟨n,⋯⟩ ⟨b,⋯⟩ with h|h
 ·exact List.isPerm_iff.mp h
 nofun
abbrev ay(r:List Nat):D:=.tup (r.map nI)
abbrev bI(r x:List Nat):D:=.tup [ay r,ay x]
structure Sq(n:Nat)(r x:List Nat):Prop where
 hr:Ord n r
 hx:Ord n x
 ne: ∀i,i<n->x.getD i 0≠r.getD i 0
theorem cV{n:Nat}(h:f ρ=p5 [nI n])(a:n<=1000):cL f ρ=p5 ((Su n).map nI):=by
 rw[xo,h,SG,xr (by nofun),HZ];rfl
theorem Sb {j:Int}(h:0<=j):D.int j=nI j.toNat:=by grind
theorem P8{ds:List D}(h:ds.length=n):nF n P ds=P ds:=if_pos h
theorem qj(a:f ρ=p5 (d,ρ1))(b:g d ρ1=p5 ρ2):eF g f ρ=.nx ρ2:=by unfold eF;rw[a];dsimp only;rw[b];rfl
theorem bf {n:Nat}{ds:List D}(h:fs ρ=p5 ds)(a:ds.length=n):au (nF n P) fs ρ=P ds:=(cy h).trans (P8 a)
theorem aZ {kd:Kd}{n:Nat}{t:FS}{ds:List D}{ρ:aB}{d:D}(h:t (mK n ds)=.rt d ρ):bL kd n t ds=p5 d:=by grind[bL]
theorem ba{d:D}(h:f ρ=p5 d):bX f ρ=.rt d ρ:=by grind[bX]
theorem OC {ks:List (List Int)}(h:ks.length<64)(a: ∀k∈ks,k≠[]):ou [.lst (ks.map a7)]=p5 (.lst ((aU aS ks).map a7)):=by
 show(jD (ks.map a7)).map D.lst=_;unfold jD;rw[if_pos (by nofun)];cases ks with
 |nil=>rfl
 |cons k ks=>
  grind[DQ,xk]
theorem vj: ∀bs:List Bool,gS (bs.map D.bl)=p5 bs
 | []=>rfl
 |b::r=>by simp[gS,vj]
theorem Bm(bs:List Bool):E4 [.lst (bs.map D.bl)]=p5 (.bl (bs.any id)):=by
 show(gS (bs.map D.bl)).map (λbs=>D.bl (bs.any id))=_;simp[vj]
theorem Jn(bs:List Bool):yV [.lst (bs.map D.bl)]=p5 (.bl (bs.all id)):=by
 show(gS (bs.map D.bl)).map (λbs=>D.bl (bs.all id))=_;simp[vj]
theorem kl {p:FT}(h:p ρ=p5 Pa):gm p t u ρ=u ρ:=by grind[gm]
theorem kK(h:p ρ=p5 S1):gm p t u ρ=t ρ:=by grind[gm]
theorem Fe(a:p ρ=p5 Pa)(c:q ρ=p5 b):xQ p q ρ=p5 b:=by grind[xQ]
theorem LC(a:p ρ=p5 S1):xQ p q ρ=p5 true:=by grind[xQ]
theorem tI(a:p ρ=p5 S1)(c:q ρ=p5 b):eR p q ρ=p5 b:=by grind[eR]
theorem NY(a:p ρ=p5 Pa):eR p q ρ=p5 false:=by grind[eR]
theorem j9{a b:Bool}(c:p ρ=p5 a)(e:a=S1->q ρ=p5 b)(d:a=Pa->b=Pa):eR p q ρ=p5 b:=by
 cases a with
 |true=>grind[tI]
 |false=>grind[NY]
theorem uh(h:p ρ=p5 b):AR p ρ=p5 (.bl b):=by grind[AR]
theorem qc{d:D}(h:f ρ=p5 (d,ρ1)):cz f ρ=.nx ρ1:=by grind[cz]
theorem b9(h:f ρ=p5 (.bl b)):bJ f ρ=p5 b:=by unfold bJ;rw[h];rfl
theorem ui{b:Bool}(h:f ρ=p5 (.bl b)):ir f ρ=p5 b:=by unfold ir;rw[h];rfl
theorem vC{b:Bool}(h:p ρ=p5 b):lI p ρ=p5 (!b):=by grind[lI]
theorem K1(h:d7 x<=32):uD x x=p5 (.bl Pa):=by rw[mC h,lh x (SZ h ())];rfl
theorem IN(h:d7 x<=32):vL x x=p5 (.bl S1):=by rw[jP h,lh x (SZ h ())]
theorem bw{d:D}{ρ ρ1 ρ2:aB}(a:g d ρ=p5 ρ1)(c:b ρ1=.nx ρ2):cu g b (d::r) ρ=cu g b r ρ2:=by
 grind[cu]
theorem bY{ds:List D}(h:f ρ=p5 (ds,ρ1)):h8 f g b ρ=cu g b ds ρ1:=by grind[h8]
theorem uY{ds:List D}(h:f ρ=p5 (.lst ds)):gu f ρ=p5 ds:=by grind[gu]
theorem KM(h:f ρ=p5 (.tup ds)):yr f ρ=p5 ds:=by grind[yr]
theorem uK {kd:Kd}{n:Nat}{t:FS}{ds:List D}(h: ∃ρ,t (mK n ds)=.rt d ρ):bL kd n t ds=p5 d:=by grind[aZ]
theorem Jq(i:Int){n:Nat}(h:0<n):(i % (n:Int)).toNat<n/\(((i % (n:Int)).toNat:Nat):Int)=i % n:=by
 have:=dB (i:=i) (m:=n) (by nofun);grind
theorem vI {i:Nat}{b0 bs:List D}{d:D}(b:fW i ρ=p5 b0)(a:fs ρ=p5 ([d],ρ1))(c:fW i ρ1=p5 bs)(e:bs.length<=900):cz (aV i 1 mj fs) ρ=.nx (fu i (bs++[d]) ρ1):=
 qc (cn b a c rfl (by rw[BW,sG ⋯]))
theorem mh {α:Type}{g:FG}{p:FT}{f:FE}{b:aB}{h o:α->D}{q:α->Bool}: ∀(l:List α),(∀i∈l,∃ρ1,g (h i) b=p5 ρ1/\p ρ1=p5 (q i)/\(q i=S1->f ρ1=p5 (o i)))->cU g p f b (l.map h)=p5 ((l.filter q).map o)
 | [],_=>rfl
 |a::l,H=>by
  obtain⟨ρ1,e,d,j⟩:=H a (by simp);have k:=mh l λi c=>H i (by simp[c])
  grind[cU]
theorem dZ {α:Type}{g:FG}{p:FT}{A:FA}{b:aB}{h:α->D}{q:α->Bool}{o:α->List D}: ∀(l:List α),(∀i∈l,∃ρ1,g (h i) b=p5 ρ1/\p ρ1=p5 (q i)/\(q i=S1->A ρ1=p5 (o i)))->oo g p A b (l.map h)=p5 ((l.filter q).flatMap o)
 | [],_=>rfl
 |a::l,H=>by
  obtain⟨ρ1,e,d,f⟩:=H a (by simp);have j:=dZ l λi c=>H i (by simp[c])
  grind[oo]
theorem om(h:f ρ=p5 d):xw f ρ=p5 [d]:=by grind[xw]
theorem oB{ds ys:List D}(a:gi1 ρ=p5 ds)(c:oo g1 p1 (G6 gi2 g2 p2 f) (ρ++SN m .no) ds=p5 ys)(b:ys.length<=1000):lQ m gi1 g1 p1 gi2 g2 p2 f ρ=p5 (.lst ys):=by
 unfold lQ;rw[a,SG,c,SG,if_pos (Va (fC b))]
theorem pj{ds ys:List D}(a:gi ρ=p5 ds)(b:oo g p (xw f) ρ ds=p5 ys):G6 gi g p f ρ=p5 ys:=by
 grind[G6]
theorem Es(r:List Nat)(ρ:aB)(f:FE)(h:f ρ=p5 (.lst (r.map nI))):au dO (af f aj) ρ=p5 (nI r.length):=by
 rw[cy (al h rfl)];show p5 (D.int ((r.map nI).length:Int))=_;simp
theorem cS(r:List Nat)(ρ:aB)(f:FE)(h:f ρ=p5 (ay r)):au dO (af f aj) ρ=p5 (nI r.length):=by
 rw[cy (al h rfl)];show p5 (D.int ((r.map nI).length:Int))=_;simp
theorem JI(a b:Nat):cw (nI a) (nI b)=p5 (.int ((a:Int) -b)):=du _ _
theorem OL(h:0<n):bp (.int i) (nI n)=p5 (nI (i % n).toNat):=by
 grind[cC,Sb,dB]
theorem G8(L:List Nat)(c:Nat):(L.map nI).any (λd=>ig d (nI c))=Oo (c∈L):=by
 induction L with
 |nil=>rfl
 |cons a L b=>
  rw[SD,YW,b,jT,VE];grind
theorem RV(L:List Nat)(c:Nat):rC Pa (nI c) (.lst (L.map nI))=p5 (.bl (Oo (c∈L))):=by
 unfold rC tU;dsimp only;rw[show bM (nI c::L.map nI)=0 from jS (c::L),if_pos (by simp),G8];rfl
def dz:FS:=
 aF (dh 3 (au wS (af (ah 0) (aj))))
 (aF (eF (gT 2 (ij (cA 3 (ah 1)) (ij (cA 3 (ah 2)) (m9)))) (pu (cQ (af (ar bt (ah 0) (ah 2)) (af (ar bt (ah 0) (ah 1)) (aj))))))
 (bX (au g9 (af (cR 3) (aj)))))
def fL:List D->Option D:=bL .s 4 dz
def fN:FS:=
 bX (bT 1 (cL (af (ar bp (ar cw (ah 2) (ah 1)) (ah 0)) (aj))) (gN 3) (fG) (ar bp (ar bG (ah 1) (ah 3)) (ah 0)))
def fQ:List D->Option D:=bL .n 3 fN
def gq:FS:=
 bX (au (nF 3 fQ) (af (au dO (af (ah 0) (aj))) (af (ah 1) (af (ah 2) (aj)))))
def eK:List D->Option D:=bL .n 3 gq
def jV:FS:=
 bX (au (nF 3 fQ) (af (au dO (af (ah 0) (aj))) (af (ar bt (ah 0) (ah 1)) (af (ar bt (ah 0) (ah 2)) (aj)))))
def jZ:List D->Option D:=bL .n 3 jV
def iy:FS:=
 aF (br 3 (au (nF 3 jZ) (af (ah 0) (af (ah 1) (af (ah 2) (aj))))))
 (bX (au ou (af (lQ 2 (gu (au (nF 3 eK) (af (ah 0) (af (ah 1) (af (ah 2) (aj)))))) (gN 4) (fG) (gu (ah 3)) (gN 5) (fG) (cQ (af (ah 4) (af (ah 5) (aj))))) (aj))))
def iu:List D->Option D:=bL .n 4 iy
def mf:FS:=
 bX (au (nF 3 fL) (af (ah 0) (af (ah 1) (af (ah 2) (aj)))))
def tw:List D->Option D:=bL .s 3 mf
def jJ:FS:=
 aF (br 3 (C4 (au (nF 3 eK) (af (ah 0) (af (ah 1) (af (ah 2) (aj))))) (PX (aH (.int 1))) Qo))
 (aF (br 4 (C4 (au (nF 3 jZ) (af (ah 0) (af (ah 1) (af (ah 2) (aj))))) (PX (aH (.int 1))) Qo))
 (bX (AR (lI (bJ (au E4 (af (bT 1 (gu (ah 3)) (gN 5) (fG) (ar (rC Pa) (ar bt (ah 0) (ah 5)) (ah 4))) (aj))))))))
def o5:List D->Option D:=bL .s 5 jJ
def iM:FS:=
 aF (eF (gT 2 (ij (gN 4) (ij (gN 5) (m9)))) (pu (ah 0)))
 (aF (br 6 (bT 2 (gu (au (nF 3 iu) (af (ah 1) (af (ah 2) (af (ah 3) (aj)))))) (gT 2 (ij (gN 7) (ij (gN 8) (m9)))) (fG) (ar (rC Pa) (ah 8) (cQ (af (ar bt (ah 4) (ah 7)) (af (ar bt (ah 5) (ah 7)) (aj)))))))
 (bX (AR (lI (bJ (au E4 (af (ah 6) (aj))))))))
def mW:List D->Option D:=bL .s 7 iM
def jH:FS:=
 bX (AR (eR (bJ (au (nF 3 o5) (af (ah 1) (af (ah 2) (af (ah 3) (aj)))))) (bJ (au (nF 4 mW) (af (ah 0) (af (ah 1) (af (ah 2) (af (ah 3) (aj)))))))))
def pC:List D->Option D:=bL .s 4 jH
def gr:FS:=
 aF (br 2 (HH (au dO (af (ah 1) (aj)))))
 (bX (lQ 2 (gu (ah 2)) (gN 3) (fG) (gu (ah 2)) (gN 4) (eR (bJ (ar uD (ah 3) (ah 4))) (ir (au (nF 4 pC) (af (ah 0) (af (ah 1) (af (ah 3) (af (ah 4) (aj)))))))) (cQ (af (ah 3) (af (ah 4) (af (au (nF 3 tw) (af (ah 1) (af (ah 3) (af (ah 4) (aj))))) (aj)))))))
def qY:List D->Option D:=bL .n 3 gr
def fV(n s e:Nat):List Nat:=(Su (((e:Int) -s) % n).toNat).map λ(i:Nat)=>(s+i) % n
def dC(n s e x:Nat):Bool:=Oo (((x:Int) -s) % n<((e:Int) -s) % n)
def sA(n s e:Nat):List Nat:=(Su n).filter (dC n s e)
theorem vH(h:0<n)(s e:Nat):(fV n s e).length<n:=by
 unfold fV;rw[SO,UB];exact(Jq _ h).1
theorem kj(h:0<n)(f:s<n)(e x:Nat):x∈fV n s e↔x<n/\dC n s e x=true:=by
 unfold fV dC;rw[SY,vu];have m:=Jq ((e:Int) -s) h;constructor
 ·rintro⟨i,b,rfl⟩;rw[SV] at b;refine⟨UM _ h,?_⟩;rw[WL,Int.emod_sub_emod,show(((s+i:Nat):Int) -s)=i by lia,VO (by simp) ⋯];nofun
 ·rintro⟨c,d⟩;have a:=Jq ((x:Int) -s) h;refine⟨(((x:Int) -s) % n).toNat,by nofun,?_⟩;have:(((s+(((x:Int) -s) % n).toNat) % n:Nat):Int)=x:=by
   rw[WL,X1,a.2,Int.add_emod_emod,show(s:Int)+((x:Int) -s)=x by lia,VO (by simp) (by nofun)]
  omega
theorem tF(h:0<n)(s e:Nat):(fV n s e).Nodup:=by
 unfold fV;have m:=Jq ((e:Int) -s) h;show List.Pairwise (·≠ ·) _;rw[Ug];refine U9 (λ{i j} a c b e=>?_) Uk;rw[SV] at a c;have:(((s+i) % n:Nat):Int)=(((s+j) % n:Nat):Int):=by rw[e]
 rw[WL,WL,X1,X1,jfj (s:Int),jfj (s:Int),Int.emod_add_cancel_right,VO (by simp) ⋯,VO (by simp) (by grind)] at this;grind
theorem ng:x∈sA n s e↔x<n/\dC n s e x=true:=by simp[sA]
theorem pP(h:0<n)(a:s<n)(e:Nat):(fV n s e).Perm (sA n s e):=
 (TC (tF h s e) (US _ Uo)).mpr λx=>(kj h a e x).trans ng.symm
def d8(A B:List Nat):List (List Int):=A.flatMap λ(a:Nat)=>B.map λ(b:Nat)=>[(a:Int),(b:Int)]
theorem sX {α β:Type}{f g:α->List β}: ∀(l:List α),(∀a∈l,(f a).Perm (g a))->(l.flatMap f).Perm (l.flatMap g)
 | [],_=>.refl _
 |a::l,h=>by
  rw[T7,T7];exact(h a (by simp)).append (sX l λb c=>h b (by simp[c]))
theorem yx {A b B c:List Nat}(d:A.Perm b)(e:B.Perm c):(d8 A B).Perm (d8 b c):=
 (sX A λa _=>e.map _).trans (List.Perm.flatMap_right _ d)
theorem Eb {A B:List Nat}(f:A.Pairwise (·< ·))(e:B.Pairwise (·< ·)):(d8 A B).Pairwise (λa b=>aS b a=Pa):=by
 unfold d8;rw[Xt];refine⟨λa _=>?_,f.imp λ{a h} c x d y g=>?_⟩
 ·rw[Ug];refine e.imp λ{b b'} c=>?_
  unfold aS aS;rw[if_pos rfl,if_neg ⋯];grind
 ·obtain⟨b,_,rfl⟩:=SY.mp d;obtain⟨b',_,rfl⟩:=SY.mp g;unfold aS;lia
theorem E3(n s e:Nat):(sA n s e).Pairwise (·< ·):=US _ Uk
theorem yT(h:0<n)(d:a<n)(e:sa<n)(b c:Nat):aU aS (d8 (fV n a b) (fV n sa c))=d8 (sA n a b) (sA n sa c):=
 (mP n6 (yx (pP h d b) (pP h e c)).symm (Eb (E3 _ _ _) (E3 _ _ _))).symm
theorem tG(A B:List Nat):(d8 A B).length=A.length*B.length:=by
 unfold d8
 induction A with
 |nil=>simp
 |cons a A b=>rw[T7,S5,SO,b,SX,Z4,Z5,jfk]
theorem Gh(A B:List Nat): ∀k∈d8 A B,k≠[]:=λk a=>by
 unfold d8 at a;grind
theorem sD(h:0<n)(a:n<=900):fQ [nI n,nI s,nI e]=p5 (.lst ((fV n s e).map nI)):=by
 apply aZ (kd:=.n) (n:=3) (t:=fN);unfold fN;have m:=Jq ((e:Int) -s) h;refine ba (dm (ds:=(Su (((e:Int) -s) % n).toNat).map nI) (cV (al ((ax ((ax (x:=nI e) (y:=nI s) rfl rfl).trans (JI _ _)) (y:=nI n) rfl).trans (OL h)) rfl) ⋯) (by simp;lia) ?_);refine(cZ (h:=nI) (o:=λ(i:Nat)=>nI ((s+i) % n)) _ λi b=>⟨_,rfl,?_⟩).trans (by unfold fV;rw[S4];rfl);exact(ax ((ax (x:=nI s) (y:=nI i) rfl rfl).trans (MC _ _)) (y:=nI n) rfl).trans (Lc h)
theorem Bh{o:List Nat}(d:o.length=n)(h:0<n)(c:n<=900)(a b:Nat):eK [ay o,nI a,nI b]=p5 (.lst ((fV n a b).map nI)):=by
 apply aZ (kd:=.n) (n:=3) (t:=gq);unfold gq;exact ba ((bf (ds:=[nI n,nI a,nI b]) (al (by rw[cS o _ _ rfl,d]) rfl) rfl).trans (sD h c))
theorem Cb{o:List Nat}(d:o.length=n)(h:0<n)(c:n<=900)(e:a<n)(f:b<n):jZ [ay o,nI a,nI b]=p5 (.lst ((fV n (o.getD a 0) (o.getD b 0)).map nI)):=by
 apply aZ (kd:=.n) (n:=3) (t:=jV);unfold jV;exact ba ((bf (ds:=[nI n,nI (o.getD a 0),nI (o.getD b 0)]) (al (by rw[cS o _ _ rfl,d]) (al ((ax (x:=ay o) (y:=nI a) rfl rfl).trans (fI (by nofun))) (al ((ax (x:=ay o) (y:=nI b) rfl rfl).trans (fI (by nofun))) rfl))) rfl).trans (sD h c))
def zO(o:List Nat)(a b:Nat):List (List Int):=d8 (sA o.length a b) (sA o.length (o.getD a 0) (o.getD b 0))
theorem FH(O:Ord n o)(h:0<n)(k:n<=8)(e:a<n)(f:b<n):iu [ay o,nI a,nI b]=p5 (.lst ((zO o a b).map a7)):=by
 have c:=O.len;apply aZ (kd:=.n) (n:=4) (t:=iy);unfold iy;refine(ao (ρ':=[.v (ay o),.v (nI a),.v (nI b),.v (.lst ((fV n (o.getD a 0) (o.getD b 0)).map nI))]) ((aY ((bf (ds:=[ay o,nI a,nI b]) rfl rfl).trans (Cb c h ⋯ e f))).trans rfl)).trans ?_
 have g:o.getD a 0<n:=by
  have:o.getD a 0=o[a]'(by nofun):=by nofun
  rw[this];exact O.lt (Zb _)
 have r:=vH h a b;have m:=vH h (o.getD a 0) (o.getD b 0);have d:(d8 (fV n a b) (fV n (o.getD a 0) (o.getD b 0))).length<=49:=by
  rw[tG];exact V3 (show _<=7 by grind) (show _<=7 by lia)
 have i:lQ 2 (gu (au (nF 3 eK) (af (ah 0) (af (ah 1) (af (ah 2) (aj)))))) (gN 4) (fG) (gu (ah 3)) (gN 5) (fG) (cQ (af (ah 4) (af (ah 5) (aj)))) [.v (ay o),.v (nI a),.v (nI b),.v (.lst ((fV n (o.getD a 0) (o.getD b 0)).map nI))]=p5 (.lst ((d8 (fV n a b) (fV n (o.getD a 0) (o.getD b 0))).map a7)):=by
  refine oB (ds:=(fV n a b).map nI) (uY ((bf (ds:=[ay o,nI a,nI b]) rfl rfl).trans (Bh c h ⋯ a b))) ?_ (by grind)
  refine(dZ (h:=nI) (q:=λ_=>S1) (o:=λ(x:Nat)=>(fV n (o.getD a 0) (o.getD b 0)).map λ(y:Nat)=>D.tup [nI x,nI y]) (fV n a b) λx j=>⟨_,rfl,rfl,λ_=>?_⟩).trans ?_
  ·refine pj (ds:=(fV n (o.getD a 0) (o.getD b 0)).map nI) rfl ?_
   refine(dZ (h:=nI) (q:=λ_=>S1) (o:=λ(y:Nat)=>[D.tup [nI x,nI y]]) (fV n (o.getD a 0) (o.getD b 0)) λy s=>⟨_,rfl,rfl,λ_=>om (cJ rfl (by simp))⟩).trans ?_
   rw[Us.mpr (λ_ _=>rfl)];congr 1
   induction (fV n (o.getD a 0) (o.getD b 0)) with
   |nil=>rfl
   |cons y l p=>nofun
  ·rw[Us.mpr (λ_ _=>rfl)];unfold d8;rw[Uz];congr 2;funext x;rw[S4];rfl
 refine ba ?_
 rw[cy (al i rfl),OC ⋯ (Gh _ _),yT h e g];unfold zO;rw[c]
def bN(o:List Nat)(a b:Nat):List Nat:=(o.set a (o.getD b 0)).set b (o.getD a 0)
theorem J9 {n:Nat}{o:List Nat}(d:o.length=n)(c:a<n)(e:b<n):fL [ay o,nI a,nI b]=p5 (ay (bN o a b)):=by
 apply aZ (kd:=.s) (n:=4) (t:=dz);unfold dz;refine(ao (ρ':=[.v (ay o),.v (nI a),.v (nI b),.own (o.map nI)]) ((dS (ds:=o.map nI) rfl).trans rfl)).trans ?_
 refine(ao (ρ':=[.v (ay o),.v (nI a),.v (nI b),.own ((bN o a b).map nI)]) (qj (nK (cJ (al ((ax (x:=ay o) (y:=nI b) rfl rfl).trans (fI (by omega))) (al ((ax (x:=ay o) (y:=nI a) rfl rfl).trans (fI (by omega))) rfl)) (by simp))) ?_)).trans (ba rfl);simp only[gT,SX,VD,ij];rw[gJ (bs:=o.map nI) (j:=a) rfl rfl (by nofun)];simp only[SG];rw[gJ (bs:=(o.map nI).set a (nI (o.getD b 0))) (j:=b) rfl rfl (by simp;omega)];simp only[SG,m9,oT];rfl
theorem CN {n:Nat}{o:List Nat}(d:o.length=n)(c:a<n)(e:b<n):tw [ay o,nI a,nI b]=p5 (ay (bN o a b)):=by
 apply aZ (kd:=.s) (n:=3) (t:=mf);unfold mf;exact ba ((bf (ds:=[ay o,nI a,nI b]) rfl rfl).trans (J9 d c e))
theorem RA(l:List Nat):zD (l.map nI) (p5 1) Sr=(l.drop 1).map nI:=by
 unfold zD;rw[HT.sIx_none,show(p5 (1:Int))=p5 ((1:Nat):Int) from rfl,HT.sIx_nat];cases l with
 |nil=>rfl
 |cons x r=>
  grind
def gy(o:List Nat)(a b:Nat):Bool:= !((fV o.length a b).drop 1).any λx=>decide (o.getD x 0∈(fV o.length (o.getD a 0) (o.getD b 0)).drop 1)
theorem Kn {n:Nat}{o:List Nat}(c:o.length=n)(h:0<n)(g:n<=900)(m:a<n)(k:b<n):o5 [ay o,nI a,nI b]=p5 (.bl (gy o a b)):=by
 apply aZ (kd:=.s) (n:=5) (t:=jJ);unfold jJ;have d: ∀(l:List Nat) (f:FE) (ρ:aB),f ρ=p5 (.lst (l.map nI))->C4 f (PX (aH (.int 1))) Qo ρ=p5 (.lst ((l.drop 1).map nI)):=λl f ρ e=>by
  unfold C4;rw[e];show p5 (D.lst (zD (l.map nI) (p5 1) Sr))=_;rw[RA]
 refine(ao (ρ':=[.v (ay o),.v (nI a),.v (nI b),.v (.lst (((fV n a b).drop 1).map nI)),.no]) ((aY (d _ _ _ ((bf (ds:=[ay o,nI a,nI b]) rfl rfl).trans (Bh c h g a b)))).trans rfl)).trans ?_
 refine(ao (ρ':=[.v (ay o),.v (nI a),.v (nI b),.v (.lst (((fV n a b).drop 1).map nI)),.v (.lst (((fV n (o.getD a 0) (o.getD b 0)).drop 1).map nI))]) ((aY (d _ _ _ ((bf (ds:=[ay o,nI a,nI b]) rfl rfl).trans (Cb c h g m k)))).trans rfl)).trans ?_
 refine ba (uh ?_);unfold gy;rw[c];refine vC (b9 ?_);have q:=vH h a b;rw[cy (al (dm (ds:=((fV n a b).drop 1).map nI) (ys:=(((fV n a b).drop 1).map λx=>decide (o.getD x 0∈(fV n (o.getD a 0) (o.getD b 0)).drop 1)).map D.bl) rfl (by simp;grind) ?_) rfl),Bm,VL]
 ·rfl
 ·rw[S4];refine cZ (h:=nI) _ λx j=>⟨_,rfl,?_⟩
  have p:x<n:=by
   have:=ZV j;unfold fV at this;obtain⟨i,_,rfl⟩:=SY.mp this;exact UM _ h
  refine(ax ((ax (x:=ay o) (y:=nI x) rfl rfl).trans (fI (by nofun))) (y:=.lst (((fV n (o.getD a 0) (o.getD b 0)).drop 1).map nI)) rfl).trans ?_
  rw[RV];rfl
theorem Fp(h:0<n)(c:s<n)(i:e<n)(j:s≠e): ∃r,fV n s e=s::r:=by
 unfold fV;have m:=Jq ((e:Int) -s) h;have b:0<(((e:Int) -s) % n).toNat:=by
  have:((e:Int) -s) % n≠0:=λz=>by
   have:=Int.emod_emod_of_dvd;have d:=Int.dvd_of_emod_eq_zero z;obtain⟨q,g⟩:=d;have:q=0:=by
    rcases Int.lt_trichotomy q 0 with a|a|a
    ·have:(n:Int)*q<=n*(-1):=XQ ⋯ (by simp);lia
    ·omega
    ·have:(n:Int)*1<=n*q:=XQ ⋯ (by simp);grind
   subst this;lia
  lia
 obtain⟨k,f⟩: ∃k,(((e:Int) -s) % n).toNat=k+1:=⟨_,(Nat.succ_pred_eq_of_pos b).symm⟩
 rw[f,Vq,SD,jbn,WJ c];exact⟨_,rfl⟩
theorem lG(h:0<n)(a:s<n)(b:e<n)(c:s≠e)(x:Nat):x∈(fV n s e).drop 1↔x<n/\dC n s e x=S1/\x≠s:=by
 grind[Fp,tF,kj]
theorem k6 {α β:Type}(f:α->β): ∀l:List α,l.flatMap (λc=>[f c])=l.map f
 | []=>rfl
 |a::l=>by rw[T7,k6 f l];rfl
theorem Ord.get{o:List Nat}(O:Ord n o){i:Nat}(h:i<n):o.getD i 0<n:=by
 have a:=O.len;have:o.getD i 0=o[i]'(by nofun):=by nofun
 rw[this];exact O.lt (Zb _)
theorem Ord.inj{o:List Nat}(O:Ord n o)(a:i<n)(b:j<n)(e:o.getD i 0=o.getD j 0):i=j:=yi O.nd (by rw[O.len];exact a) (by rw[O.len];exact b) e
theorem pd{o:List Nat}(O:Ord n o)(e:a<n)(c:b<n)(g:a≠b):gy o a b=S1↔ ∀x,x<n-> ¬(dC n a b x=S1/\x≠a/\dC n (o.getD a 0) (o.getD b 0) (o.getD x 0)=S1/\o.getD x 0≠o.getD a 0):=by
 have h:0<n:=by lia
 have d:o.getD a 0≠o.getD b 0:=λz=>g (O.inj e c z)
 unfold gy;rw[O.len];simp only[Ut,Xk,vu];constructor
 ·intro H x f ⟨j,i,k,m⟩;exact H x ((lG h e c g x).mpr ⟨f,j,i⟩) ((lG h (O.get e) (O.get c) d _).mpr ⟨O.get f,k,m⟩)
 ·intro H x f l;obtain⟨t,u,q⟩:=(lG h e c g x).mp f;obtain⟨p,s,r⟩:=(lG h (O.get e) (O.get c) d _).mp l;grind
def j7(r x o:List Nat)(a b:Nat):Bool:= !(sA o.length a b).any λc=>decide (r.getD c 0∈sA o.length (o.getD a 0) (o.getD b 0))||decide (x.getD c 0∈sA o.length (o.getD a 0) (o.getD b 0))
theorem Sn(y p q:Nat):rC Pa (nI y) (.tup [nI p,nI q])=p5 (.bl (Oo (y=p\/y=q))):=by
 unfold rC tU;dsimp only;rw[show bM [nI y,nI p,nI q]=0 from jS [y,p,q],if_pos (by simp)];have:=G8 [p,q] y;nofun
theorem HL{r x o:List Nat}(O:Ord n o)(z:r.length=n)(A:x.length=n)(h:0<n)(k:n<=8)(u:a<n)(j:b<n):mW [bI r x,ay o,nI a,nI b]=p5 (.bl (j7 r x o a b)):=by
 have g:=O.len;have pl: ∀s e,(sA n s e).length<=8:=λs e=>by grind[sA]
 have i:(zO o a b).length<=64:=by
  unfold zO;rw[tG,g];exact V3 (pl a b) (pl (o.getD a 0) (o.getD b 0))
 apply aZ (kd:=.s) (n:=7) (t:=iM);unfold iM;refine(ao (ρ':=[.v (bI r x),.v (ay o),.v (nI a),.v (nI b),.v (ay r),.v (ay x),.no]) (qj (nK rfl) rfl)).trans ?_
 let P:List Nat×Nat->Bool:=λ_=>S1
 have l:(zO o a b).map a7=((sA n a b).flatMap λc=>(sA n (o.getD a 0) (o.getD b 0)).map λy=>(c,y)).map λp:Nat×Nat=>D.tup [nI p.1,nI p.2]:=by
  unfold zO d8;rw[Uz,Uz,g];congr 1;funext c;rw[S4,S4];rfl
 have m:bT 2 (gu (au (nF 3 iu) (af (ah 1) (af (ah 2) (af (ah 3) (aj)))))) (gT 2 (ij (gN 7) (ij (gN 8) (m9)))) (fG) (ar (rC Pa) (ah 8) (cQ (af (ar bt (ah 4) (ah 7)) (af (ar bt (ah 5) (ah 7)) (aj))))) [.v (bI r x),.v (ay o),.v (nI a),.v (nI b),.v (ay r),.v (ay x),.no]
  =p5 (.lst ((((sA n a b).flatMap λc=>(sA n (o.getD a 0) (o.getD b 0)).map λy=>(c,y)).map λp:Nat×Nat=>decide (p.2=r.getD p.1 0\/p.2=x.getD p.1 0)).map D.bl)):=by
  refine dm (ds:=(zO o a b).map a7) (uY ((bf (ds:=[ay o,nI a,nI b]) rfl rfl).trans (FH O h k u j))) (by grind) ?_
  rw[l,S4];refine cZ (h:=λp:Nat×Nat=>D.tup [nI p.1,nI p.2]) _ λp f=>⟨_,rfl,?_⟩
  obtain⟨c,q,f⟩:=Vr.mp f;obtain⟨y,B,rfl⟩:=SY.mp f;have w:c<n:=(ng.mp q).1;refine(ax (x:=nI y) (y:=.tup [nI (r.getD c 0),nI (x.getD c 0)]) rfl (cJ (al ((ax (x:=ay r) (y:=nI c) rfl rfl).trans (fI (by nofun))) (al ((ax (x:=ay x) (y:=nI c) rfl rfl).trans (fI (by nofun))) rfl)) (by simp))).trans ?_
  exact Sn _ _ _
 refine(ao (ρ':=[.v (bI r x),.v (ay o),.v (nI a),.v (nI b),.v (ay r),.v (ay x),.v (.lst ((((sA n a b).flatMap λc=>(sA n (o.getD a 0) (o.getD b 0)).map λy=>(c,y)).map λp:Nat×Nat=>decide (p.2=r.getD p.1 0\/p.2=x.getD p.1 0)).map D.bl))]) ((aY m).trans rfl)).trans ?_
 refine ba (uh ?_);unfold j7;refine vC (b9 ?_);rw[cy (al (d:=.lst _) rfl rfl),Bm,VL,g];congr 2;rw[VE];simp only[Zc,Vr,SY,jec,id,vu,X2];grind
def bH(r x o:List Nat)(a b:Nat):Bool:=gy o a b&&j7 r x o a b
theorem Cv{r x o:List Nat}(O:Ord n o)(g:r.length=n)(e:x.length=n)(h:0<n)(f:n<=8)(c:a<n)(d:b<n):pC [bI r x,ay o,nI a,nI b]=p5 (.bl (bH r x o a b)):=by
 apply aZ (kd:=.s) (n:=4) (t:=jH);unfold jH;refine ba (uh (j9 (a:=gy o a b) (b9 ((bf (ds:=[ay o,nI a,nI b]) rfl rfl).trans (Kn O.len h ⋯ c d))) (λz=>b9 ((bf (ds:=[bI r x,ay o,nI a,nI b]) rfl rfl).trans ?_)) λz=>by grind[bH]));grind[HL,bH]
abbrev yp(o:List Nat)(a b:Nat):D:=.tup [nI a,nI b,ay (bN o a b)]
def F0(P:Nat->Nat->Bool)(o:List Nat):List D:=(Su o.length).flatMap λa=>((Su o.length).filter λb=>decide (a≠b)&&P a b).map λb=>yp o a b
theorem Hq{r x o:List Nat}(O:Ord n o)(p:r.length=n)(j:x.length=n)(h:0<n)(c:n<=8):qY [bI r x,ay o]=p5 (.lst (F0 (bH r x o) o)):=by
 have e:=O.len;apply aZ (kd:=.n) (n:=3) (t:=gr);unfold gr;refine(ao (ρ':=[.v (bI r x),.v (ay o),.v (.lst ((Su n).map nI))]) ((aY (zZ (n:=n) ⋯ _ _ (by rw[cS o _ _ rfl,e]))).trans rfl)).trans ?_
 refine ba (oB (ds:=(Su n).map nI) rfl ?_ ?_)
 ·refine(dZ (h:=nI) (q:=λ_=>S1) (o:=λ(a:Nat)=>((Su n).filter λb=>decide (a≠b)&&bH r x o a b).map λb=>yp o a b) (Su n) λa d=>⟨_,rfl,rfl,λ_=>?_⟩).trans ?_
  ·rw[SV] at d;refine pj (ds:=(Su n).map nI) rfl ?_
   refine(dZ (h:=nI) (q:=λb=>decide (a≠b)&&bH r x o a b) (o:=λ(b:Nat)=>[yp o a b]) (Su n) λb i=>⟨_,rfl,?_,λ_=>om (cJ (al rfl (al rfl (al ((bf (ds:=[ay o,nI a,nI b]) rfl rfl).trans (CN e d (by nofun))) rfl))) (by simp))⟩).trans ?_
   ·rw[SV] at i;refine j9 (a:=Oo (a≠b)) (b9 ?_) (λz=>?_) (λz=>by rw[z];rfl)
    ·rw[ax (x:=nI a) (y:=nI b) rfl rfl,mC (by rw[eZ];simp),jT];simp
    ·rw[z,VR];exact ui ((bf (ds:=[bI r x,ay o,nI a,nI b]) rfl rfl).trans (Cv O p j h c d i))
   ·rw[k6]
  ·rw[Us.mpr (λ_ _=>rfl)];grind[F0]
 ·have g: ∀(l:List Nat) (m:Nat) (f:Nat->List D),(∀a,(f a).length<=m)->(l.flatMap f).length<=l.length*m:=by
   intro l m f s
   induction l with
   |nil=>simp
   |cons a l u=>rw[T7,S5,SX,Z4,Z5];grind
  unfold F0;rw[e];have k:=g (Su n) n (λa=>((Su n).filter λb=>decide (a≠b)&&bH r x o a b).map λb=>yp o a b) (λa=>by grind);rw[UB] at k;have:n*n<=8*8:=V3 c c;omega
def iN:FS:=
 aF (br 4 (au dO (af (ah 1) (aj))))
 (aF (br 5 (ar bp (ar cw (ar bt (ah 1) (ah 3)) (ar bt (ah 1) (ah 2))) (ah 4)))
 (aF (h8 (c8 (cL (af (ar bp (ar cw (ah 3) (ah 2)) (ah 4)) (aj)))) (gN 6) (aF (br 7 (ar bp (ar bG (ah 2) (ah 6)) (ah 4)))
 (aF (gm (eR (bJ (ar FK (ah 6) (aH (.int 0)))) (bJ (ar nW (ar bp (ar cw (ar bt (ah 1) (ah 7)) (ar bt (ah 1) (ah 2))) (ah 4)) (ah 5)))) (bX (aH (.bl Pa))) (el))
 (gm (xQ (bJ (ar nW (ar bp (ar cw (ar bt (ar bt (ah 0) (aH (.int 0))) (ah 7)) (ar bt (ah 1) (ah 2))) (ah 4)) (ah 5))) (bJ (ar nW (ar bp (ar cw (ar bt (ar bt (ah 0) (aH (.int 1))) (ah 7)) (ar bt (ah 1) (ah 2))) (ah 4)) (ah 5)))) (bX (aH (.bl Pa))) (el)))))
 (bX (aH (.bl S1)))))
def wW:List D->Option D:=bL .s 8 iN
theorem xN {α:Type}{g:FG}{b:FS}{h:α->D}{ok:α->Bool}{d:D}{P:aB->Prop}: ∀(l:List α),(∀x∈l,∀ρ,P ρ-> ∃ρ1,g (h x) ρ=p5 ρ1/\(ok x=S1-> ∃ρ2,b ρ1=.nx ρ2/\P ρ2)/\(ok x=Pa-> ∃ρ2,b ρ1=.rt d ρ2))->
 ∀ρ,P ρ->(l.all ok=S1-> ∃ρ',cu g b (l.map h) ρ=.nx ρ'/\P ρ')/\(l.all ok=Pa-> ∃ρ',cu g b (l.map h) ρ=.rt d ρ')
 | [],_,ρ,p=>⟨λ_=>⟨ρ,rfl,p⟩,λz=>by simp at z⟩
 |x::l,H,ρ,p=>by
  obtain⟨ρ1,c,a,m⟩:=H x (by simp) ρ p;rw[YV,SD];cases e:ok x with
  |true=>
   obtain⟨ρ2,i,j⟩:=a e;have f:=xN l (λy k=>H y (by simp[k])) ρ2 j;rw[VR,bw c i];exact f
  |false=>
   grind[cu]
def Po(n:Nat)(r x o:List Nat)(a b:Nat)(k:Nat):Bool:= !(Oo (0<k)&&dC n (o.getD a 0) (o.getD b 0) (o.getD ((a+k) % n) 0))&& !(dC n (o.getD a 0) (o.getD b 0) (r.getD ((a+k) % n) 0)||dC n (o.getD a 0) (o.getD b 0) (x.getD ((a+k) % n) 0))
def BP(n:Nat)(r x o:List Nat)(a b:Nat):Bool:=(Su (((b:Int) -a) % n).toNat).all (Po n r x o a b)
theorem zb{r x o:List Nat}(M:o.length=n)(R:r.length=n)(T:x.length=n)(h:0<n)(N:n<=900)(F:a<n)(H:b<n):wW [bI r x,ay o,nI a,nI b]=p5 (.bl (BP n r x o a b)):=by
 refine uK (kd:=.s) (n:=8) (t:=iN) ?_
 unfold iN;have m:=Jq ((b:Int) -a) h;have j: ∀ {i:Nat},i<n-> ∀(ρ:aB) (f:FE),f ρ=p5 (nI i)->ah 1 ρ=p5 (ay o)->ar bt (ah 1) f ρ=p5 (nI (o.getD i 0)):=λ{i} O ρ f I G=>(ax G I).trans (fI (by nofun))
 have B:br 4 (au dO (af (ah 1) (aj))) [.v (bI r x),.v (ay o),.v (nI a),.v (nI b),.no,.no,.no,.no]=.nx [.v (bI r x),.v (ay o),.v (nI a),.v (nI b),.v (nI n),.no,.no,.no]:=(aY (d:=nI n) (by rw[cS o _ _ rfl,M])).trans rfl;have E:br 5 (ar bp (ar cw (ar bt (ah 1) (ah 3)) (ar bt (ah 1) (ah 2))) (ah 4)) [.v (bI r x),.v (ay o),.v (nI a),.v (nI b),.v (nI n),.no,.no,.no]=.nx [.v (bI r x),.v (ay o),.v (nI a),.v (nI b),.v (nI n),.v (.int (((o.getD b 0:Int) -o.getD a 0) % n)),.no,.no]:=
  (aY ((ax ((ax (j H _ _ rfl rfl) (j F _ _ rfl rfl)).trans (JI _ _)) (y:=nI n) rfl).trans (cC (by nofun)))).trans rfl
 have q:=xN (g:=gN 6) (h:=nI) (ok:=Po n r x o a b) (d:=.bl Pa) (P:=λρ=> ∃C w,ρ=[.v (bI r x),.v (ay o),.v (nI a),.v (nI b),.v (nI n),.v (.int (((o.getD b 0:Int) -o.getD a 0) % n)),C,w])
  (b:=aF (br 7 (ar bp (ar bG (ah 2) (ah 6)) (ah 4)))
    (aF (gm (eR (bJ (ar FK (ah 6) (aH (.int 0)))) (bJ (ar nW (ar bp (ar cw (ar bt (ah 1) (ah 7)) (ar bt (ah 1) (ah 2))) (ah 4)) (ah 5)))) (bX (aH (.bl Pa))) (el))
    (gm (xQ (bJ (ar nW (ar bp (ar cw (ar bt (ar bt (ah 0) (aH (.int 0))) (ah 7)) (ar bt (ah 1) (ah 2))) (ah 4)) (ah 5))) (bJ (ar nW (ar bp (ar cw (ar bt (ar bt (ah 0) (aH (.int 1))) (ah 7)) (ar bt (ah 1) (ah 2))) (ah 4)) (ah 5)))) (bX (aH (.bl Pa))) (el))))
  (Su (((b:Int) -a) % n).toNat) ?_ [.v (bI r x),.v (ay o),.v (nI a),.v (nI b),.v (nI n),.v (.int (((o.getD b 0:Int) -o.getD a 0) % n)),.no,.no] ⟨_,_,rfl⟩
 ·have D: ∀ {o':Out},cu (gN 6) (aF (br 7 (ar bp (ar bG (ah 2) (ah 6)) (ah 4)))
   (aF (gm (eR (bJ (ar FK (ah 6) (aH (.int 0)))) (bJ (ar nW (ar bp (ar cw (ar bt (ah 1) (ah 7)) (ar bt (ah 1) (ah 2))) (ah 4)) (ah 5)))) (bX (aH (.bl Pa))) (el))
   (gm (xQ (bJ (ar nW (ar bp (ar cw (ar bt (ar bt (ah 0) (aH (.int 0))) (ah 7)) (ar bt (ah 1) (ah 2))) (ah 4)) (ah 5))) (bJ (ar nW (ar bp (ar cw (ar bt (ar bt (ah 0) (aH (.int 1))) (ah 7)) (ar bt (ah 1) (ah 2))) (ah 4)) (ah 5)))) (bX (aH (.bl Pa))) (el)))) ((Su (((b:Int) -a) % n).toNat).map nI) [.v (bI r x),.v (ay o),.v (nI a),.v (nI b),.v (nI n),.v (.int (((o.getD b 0:Int) -o.getD a 0) % n)),.no,.no]=o'->
   h8 (c8 (cL (af (ar bp (ar cw (ah 3) (ah 2)) (ah 4)) (aj)))) (gN 6) _ [.v (bI r x),.v (ay o),.v (nI a),.v (nI b),.v (nI n),.v (.int (((o.getD b 0:Int) -o.getD a 0) % n)),.no,.no]=o':=λ{o'} e=>
   (bY (bj (cV (n:=(((b:Int) -a) % n).toNat) (al ((ax ((ax (x:=nI b) (y:=nI a) rfl rfl).trans (JI _ _)) (y:=nI n) rfl).trans (OL h)) rfl) ⋯))).trans e
  cases ef:BP n r x o a b with
  |true=>
   obtain⟨ρ',e,_⟩:=q.1 ef;exact⟨ρ',(ao B).trans ((ao E).trans ((ao (D e)).trans rfl))⟩
  |false=>
   obtain⟨ρ',e⟩:=q.2 ef;exact⟨ρ',(ao B).trans ((ao E).trans (G3 (D e)))⟩
 ·rintro k V ρ ⟨C,w,rfl⟩;have K:(a+k) % n<n:=UM _ h;refine⟨[.v (bI r x),.v (ay o),.v (nI a),.v (nI b),.v (nI n),.v (.int (((o.getD b 0:Int) -o.getD a 0) % n)),.v (nI k),w],rfl,?_⟩
  let ρ2:aB:=[.v (bI r x),.v (ay o),.v (nI a),.v (nI b),.v (nI n),.v (.int (((o.getD b 0:Int) -o.getD a 0) % n)),.v (nI k),.v (nI ((a+k) % n))]
  have A:br 7 (ar bp (ar bG (ah 2) (ah 6)) (ah 4)) [.v (bI r x),.v (ay o),.v (nI a),.v (nI b),.v (nI n),.v (.int (((o.getD b 0:Int) -o.getD a 0) % n)),.v (nI k),w]=.nx ρ2:=(aY ((ax ((ax (x:=nI a) (y:=nI k) rfl rfl).trans (MC _ _)) (y:=nI n) rfl).trans (Lc h))).trans rfl;have l: ∀(f:FE) (v:Nat),f ρ2=p5 (nI v)->bJ (ar nW (ar bp (ar cw f (ar bt (ah 1) (ah 2))) (ah 4)) (ah 5)) ρ2=p5 (dC n (o.getD a 0) (o.getD b 0) v):=λf v J=>b9 ((ax ((ax ((ax J (j F _ _ rfl rfl)).trans (JI _ _)) (y:=nI n) rfl).trans (cC (by nofun))) rfl).trans (oE _ _))
  have U:=l _ _ (j K ρ2 (ah 7) rfl rfl);have S:=l (ar bt (ar bt (ah 0) (aH (.int 0))) (ah 7)) (r.getD ((a+k) % n) 0) ((ax (x:=ay r) (y:=nI ((a+k) % n)) rfl rfl).trans (fI (by nofun)));have Q:=l (ar bt (ar bt (ah 0) (aH (.int 1))) (ah 7)) (x.getD ((a+k) % n) 0) ((ax (x:=ay x) (y:=nI ((a+k) % n)) rfl rfl).trans (fI (by nofun)));have L:bJ (ar FK (ah 6) (aH (.int 0))) ρ2=p5 (Oo (0<k)):=b9 ((ax (x:=nI k) (y:=.int 0) rfl rfl).trans ((uW _ _).trans (by simp)));have p:eR (bJ (ar FK (ah 6) (aH (.int 0)))) (bJ (ar nW (ar bp (ar cw (ar bt (ah 1) (ah 7)) (ar bt (ah 1) (ah 2))) (ah 4)) (ah 5))) ρ2=p5 (Oo (0<k)&&dC n (o.getD a 0) (o.getD b 0) (o.getD ((a+k) % n) 0)):=
   j9 L (λz=>⋯) (λz=>by rw[z];rfl)
  have u:xQ (bJ (ar nW (ar bp (ar cw (ar bt (ar bt (ah 0) (aH (.int 0))) (ah 7)) (ar bt (ah 1) (ah 2))) (ah 4)) (ah 5))) (bJ (ar nW (ar bp (ar cw (ar bt (ar bt (ah 0) (aH (.int 1))) (ah 7)) (ar bt (ah 1) (ah 2))) (ah 4)) (ah 5))) ρ2=p5 (dC n (o.getD a 0) (o.getD b 0) (r.getD ((a+k) % n) 0)||dC n (o.getD a 0) (o.getD b 0) (x.getD ((a+k) % n) 0)):=by
   grind[dC,LC,Fe]
  unfold Po;refine⟨λc=>?_,λc=>?_⟩
  ·rw[TR,Ut,Ut] at c;rw[c.1] at p;rw[c.2] at u;exact⟨ρ2,(ao A).trans ((ao (kl p)).trans (kl u)),_,_,rfl⟩
  ·cases e:(decide (0<k)&&dC n (o.getD a 0) (o.getD b 0) (o.getD ((a+k) % n) 0)) with
   |true=>
    rw[e] at p;exact⟨ρ2,(ao A).trans (G3 (kK p))⟩
   |false=>
    rw[e] at p c;rw[Bool.not_false,VR,Bool.not_eq_false'] at c;rw[c] at u;exact⟨ρ2,(ao A).trans ((ao (kl p)).trans (kK u))⟩
theorem IV {n:Nat}(h:0<n){a b:Nat}(ha:a<n)(hb:b<n)(P:Nat->Nat->Prop)(Q:Nat->Prop)(h0:a≠b):(∀k,k<(((b:Int) -a) % n).toNat->Q ((a+k) % n))↔ ∀c,c<n->dC n a b c=S1->Q c:=by
 constructor
 ·intro H c hc hin;have:c∈fV n a b:=(kj h ha b c).mpr ⟨hc,hin⟩;grind[fV]
 ·intro H k hk;have:(a+k) % n∈fV n a b:=by grind[fV]
  grind[kj]
theorem De(O:Ord n o)(R:Ord n r)(X:Ord n x)(f:a<n)(p:b<n)(s:a≠b):BP n r x o a b=bH r x o a b:=by
 have h:0<n:=by grind
 have m:=Jq ((b:Int) -a) h;rw[VE];unfold bH;rw[TR,pd O f p s];unfold BP j7;rw[TZ,O.len];simp only[Ut,Xk,ng,X2,vu,not_or];have B: ∀k,k<(((b:Int) -a) % n).toNat->(0<k↔(a+k) % n≠a):=by
  intro k i;have t:k<n:=by omega
  by_cases d:k=0
  ·subst d;rw[jbn,WJ f];simp
  ·refine⟨λ_=>?_,λ_=>by grind⟩
   by_cases D:a+k<n
   ·grind[WJ]
   ·rw[Nat.mod_eq_sub_mod (by nofun),WJ (by omega)];omega
 constructor
 ·intro H;have u: ∀k,k<(((b:Int) -a) % n).toNat->(¬((a+k) % n≠a/\dC n (o.getD a 0) (o.getD b 0) (o.getD ((a+k) % n) 0)=true))/\ ¬dC n (o.getD a 0) (o.getD b 0) (r.getD ((a+k) % n) 0)=true/\ ¬dC n (o.getD a 0) (o.getD b 0) (x.getD ((a+k) % n) 0)=true:=by
   intro k i;have z:=H k (by nofun);grind[Po]
  have q:=(IV h f p (λ_ _=>True) (λc=>(¬(c≠a/\dC n (o.getD a 0) (o.getD b 0) (o.getD c 0)=S1))/\ ¬dC n (o.getD a 0) (o.getD b 0) (r.getD c 0)=S1/\ ¬dC n (o.getD a 0) (o.getD b 0) (x.getD c 0)=S1) s).mp u;grind
 ·rintro⟨C,q⟩ k i;rw[SV] at i;have j:(a+k) % n∈fV n a b:=by grind[fV]
  obtain⟨g,w⟩:=(kj h f b _).mp j;obtain⟨A,y⟩:=q _ ⟨g,w⟩;unfold Po;simp only[TR,Ut,Bool.or_eq_false_iff,ZP,decide_eq_false_iff_not];refine⟨?_,?_,?_⟩
  ·by_cases d:0<k
   ·right;have l:=(B k i).mp d;have v:o.getD ((a+k) % n) 0≠o.getD a 0:=λz=>l (O.inj g f z)
    grind
   lia
  ·cases e:dC n (o.getD a 0) (o.getD b 0) (r.getD ((a+k) % n) 0) with
   |false=>rfl
   |true=>exact absurd ⟨R.get g,e⟩ A
  ·cases e:dC n (o.getD a 0) (o.getD b 0) (x.getD ((a+k) % n) 0) with
   |false=>rfl
   |true=>exact absurd ⟨X.get g,e⟩ y
section
variable {K:SA}
def zX:V->List V->Hp->VK->Prop:=λx vs H Q=> ∃(l:Addr) (ns:List Int) (i:Int) (j:Nat),x=.ref l/\vs=[.int i]/\H l=p5 (.lst (ns.map V.int))/\ns.findIdx? (λm=>m==i)=p5 j/\Q .non (aW H l (.lst ((ns.map V.int).eraseIdx j)))
def Rj(i:Int):Sw->Bool
 | .int a _=>a==i
 |_=>Pa
theorem Dp:Lh X "list.remove" zX:=by
 intro L s σ H x vs v us Q I D E h;obtain⟨l,ns,i,j,rfl,rfl,p,C,q⟩:=h;cases D;obtain⟨u,rfl,B⟩:=E.one;obtain⟨t,rfl⟩:=B;obtain⟨z,a,n,r,M,e⟩:=I.lstM p;have o:a.length=ns.length:=by nofun
 have b: ∀m (c:m<a.length),∃tk,a[m]=.int (ns[m]'(by nofun)) tk:=λm c=>by
  have g:(ns.map V.int)[m]? =p5 (V.int (ns[m]'(by nofun))):=by simp
  obtain⟨w,hw,k⟩:=r.get g;obtain⟨tk,rfl⟩:=k;rw[SJ c] at hw;nofun
 have G: ∀y,y∈a.toArray->MeetsSeq.EqGives y (.int i t) (Rj i y):=λy J=>by
  obtain⟨m,c,rfl⟩:=Vn (List.mem_toArray.mp J);obtain⟨tk,d⟩:=b m c;rw[d];exact jgk _ _ _ _
 obtain⟨N,A,K⟩:=Xd.mp C;refine Yr F.slot_list_remove ⟨_,e,rfl⟩ F.entry_list_remove (F.args_list_remove_2 _ _)
  (MeetsSeq.list_remove l a.toArray n (.int i t) (Rj i) G j (by rw[Ww];nofun) ?_ ?_ (by nofun)) ⟨e,?_⟩
 ·obtain⟨tk,d⟩:=b j (by nofun);rw[Z6,d];exact A
 ·intro m c f;rw[Ww] at c;obtain⟨tk,d⟩:=b m c;rw[Z6,d];have:=K m f;simpa [Rj] using this
 refine⟨.non,_,I.lset (its':=a.eraseIdx j) p e ?_ (r.eraseIdx j) ?_,rfl,q⟩
 ·simp
 ·have:=l4 (ns.map V.int) j;omega
def F4:List D->List D->Option (D×List D):=λbs ds=>match ds with
 | [.int i]=>match cq bs with
   |some ns=>(ns.findIdx? (λm=>m==i)).map λj=>(.non,bs.eraseIdx j)
   |none=>Sr
 |_=>Sr
theorem C1:Mw K zX 1 F4:=by
 intro H hid a xs us bs ds k d Q h n e l o b q;unfold F4 at b;split at b
 ·split at b
  ·rename_i i _ ns g
   cases e2:ns.findIdx? (λm=>m==i) with
   |none=>nofun
   |some j=>
    rw[e2] at b;cases b;cases l with
    |cons r t=>
     cases t;cases r;have c:=e;rw[dv g] at c;have f:=gl c;refine⟨a,ns,i,j,rfl,rfl,by rw[<-f];exact h,e2,?_⟩;rw[<-f];exact q _ _ (e.eraseIdx j) .non
  nofun
 nofun
end
section
variable {X:Cx}{c:Ct}{pos:Pos}
def yO(i j:Nat)(a:FA):FS:=λρ=>match a ρ with
 |some [b,c]=>.nx ((ρ.set i (.v b)).set j (.v c))
 |_=>.no
theorem EA(i j:Nat){a b:Expr}{kt k2 pt2}(p:X.calm=S1)(r:X.N.Nodup)(z:DA X c [a,b] fs)(o:X.N[i]? =p5 x:=by rfl)(s:X.N[j]? =p5 y:=by rfl)(g:i≠j:=by decide)
 (v:X.env.scope.names.lookup x=p5 .local:=by rfl) (B:X.env.scope.names.lookup y=p5 .local:=by rfl)
 (hw:XJ [.Tuple [.Name x px,.Name y py] kt pt] (.Tuple [a,b] k2 pt2) X.env=pure (p5 [x,y]):=by rfl)
 (n:XI [.Tuple [.Name x px,.Name y py] kt pt] (.Tuple [a,b] k2 pt2) pos.line X.env=pure false:=by rfl):
 DS X c k (.Assign [.Tuple [.Name x px,.Name y py] kt pt] (.Tuple [a,b] k2 pt2) pos) (yO i j fs):=λρ=>
 PS.imp (M6 p r o s g v B (OD λhid=>z hid ρ) hw n) λD σ H e=>by
  obtain⟨hid,l,q⟩:=e;unfold yO at q;cases d:fs ρ with
  |none=>rw[d] at q;exact q.elim
  |some ds=>
   rw[d] at q
   match ds,d,q with
   | [],_,q=>exact q.elim
   | [_],_,q=>exact q.elim
   |_::_::_::_,_,q=>exact q.elim
   | [A,u],d,q=>
     refine⟨hid,l,[A,u],d,λvs m h f=>?_⟩;cases f with
     |cons f t=>
      cases t with
      |cons w t=>
       cases t;exact⟨_,_,rfl,q _ m hid (((l.ext h).setV f i).setV w j) (aC h)⟩
end
open PySem PySem.W PySem.Spec PyProof.Rows
theorem Inv.turnedL{s:Sx}{h':Heap}{t':Nat}(L:List Addr)(I:Inv X aa σ H s)(f: ∀b∈L,ik X aa H b)(k: ∀b o,b∉L->s.heap.get? b=p5 o->h'.get? b=p5 o):Inv X aa σ H {s with heap:=h',toks:=t'}:=by
 have d: ∀b u,H b=p5 u->b∉L:=λb u e z=>by rw[(f b z).1] at e;nofun
 have l:X.env.locals∉L:=λz=>(f _ z).2.1 rfl
 refine I.step (g':=s.gens) (d':=s.drawn) (ch:=L) (λb h=>?_) (λb o _ _ a e _=>k b o a e) (λb o _ _ a e _=>⟨o.slots,k b o a e⟩) (λ_ _ _ _ n=>n)
  (λb o a e=>⟨o,k b o a e⟩) (λ_ _ e=>e) (λ_ _ _ e=>e) (λb A e=>⟨#[],by rw[e];rfl⟩) (λm j=>?_) (λb u e=>?_) I.bare
 ·obtain⟨y,i,x,p,t,g⟩:=f b h;exact⟨p,i,t,g⟩
 ·obtain⟨o,es,ep,w,r⟩:=j;exact⟨o,es,ep,k _ o l w,r⟩
 ·refine(I.hok b u e).stay (λc v a q=>k c v ?_ q) (λ_ q=>q) λ_ _ q=>q
  rcases a with z|z
  ·rw[z];exact d b u e
  ·exact d c _ z
def RQ(K:SA)(a b:Addr):It:=
 ⟨λi H=> ∃xs ys x y,SqL K H a xs/\SqL K H b ys/\xs[i]? =p5 x/\ys[i]? =p5 y,λi H x c=> ∃T,x=.ref T/\H T=Sr/\ ∀xs ys,SqL K H a xs->SqL K H b ys-> ∃y z,xs[i]? =p5 y/\ys[i]? =p5 z/\c=aW H T (.tup [y,z]),λi H=> ∃xs ys,SqL K H a xs/\SqL K H b ys/\(xs.length<=i\/ys.length<=i)⟩
theorem GY{K:SA}{x1}(a b z TI TO l i2:Addr)(AP:ZipApart z TI TO l i2 a b):ox P w K (.Tuple es x1 pos) (RQ K a b) [z,TI,TO,l,i2] z (λi h=>IsZip h z TI TO .none/\IsPair h TI (.ref l) (.ref i2)/\(∃p q,IsPair h TO p q)/\h.IsListIter l a i/\h.IsListIter i2 b i) where
 mem:=by simp
 obj:=λi h st c d=>by
  obtain⟨hz,f,⟨p,q,j⟩,⟨o1,ho1,_,hd1⟩,⟨o2,ho2,_,hd2⟩⟩:=st;grind
 keep:=λi h h' st k=>by
  obtain⟨hz,f,⟨p,q,j⟩,F,D⟩:=st;exact⟨k z (by simp) _ hz,k TI (by simp) _ f,⟨p,q,k TO (by simp) _ j⟩,F.at λo x=>k l (by simp) o x,D.at λo x=>k i2 (by simp) o x⟩
 item:=by
  intro X U hw Y d i M s σ H E I Q st O;subst U hw Y;obtain⟨xs,ys,x,y,n,m,N,hy⟩:=O;obtain⟨r,t,px,Tm⟩:=I.list n;obtain⟨A,B,V,S⟩:=I.list m;obtain⟨u,hu,ru⟩:=t.get N;obtain⟨v,hv,rv⟩:=B.get hy;obtain⟨hz,f,⟨p,q,j⟩,F,D⟩:=st;refine wpAny_pyNext_zip_item AP hz f j F D (show s.heap.IsList a r.toArray from px.isList) (show s.heap.IsList b A.toArray from V.isList) (x:=u) (y:=v) (by simpa using hu) (by simpa using hv) λg gz W g1 g2 gT gsz T=>⟨_,rfl,?_⟩
  refine wpAny_letOwnedTupleGo_zip gz λg' XV ST=>?_
  have lz:z<s.heap.objs.size:=SH hz;have lTI:TI<s.heap.objs.size:=SH f;have lTO:TO<s.heap.objs.size:=SH j;have li1:l<s.heap.objs.size:=let⟨_,e,_⟩:=F;SH e
  have li2:i2<s.heap.objs.size:=let⟨_,e,_⟩:=D;SH e
  have C: ∀c,c≠z->g'.get? c=g.get? c:=λc d=>ST.2 c d
  have gT':g'.get? s.heap.objs.size=p5 {cls:=.type "tuple",data:=.seq #[u,v]}:=(C _ (Ux lz)).trans gT;have G:IsPair g' TO u v:=(C _ AP.TOz).trans W;have XL:g'.IsListIter l a (i+1):=g1.at λo e=>(C _ AP.i1z).trans e
  have Z:g'.IsListIter i2 b (i+1):=g2.at λo e=>(C _ AP.i2z).trans e
  have L:IsPair g' TI (.ref l) (.ref i2):=(C _ AP.TIz).trans (T TI _ AP.TIz AP.TITO AP.TIi1 AP.TIi2 f);have hn:H s.heap.objs.size=none:=I.hok.fresh (SB _);have fl: ∀c∈[z,TI,TO,l,i2],c<s.heap.objs.size:=λc d=>by
   simp only[S6,WM,or_false] at d;lia
  have J: ∀c∈[z,TI,TO,l,i2],ik X M (aW H s.heap.objs.size (.tup [x,y])) c:=λc d=>by
   obtain⟨f0,f1,f2,f3,f4,f5⟩:=Q c d;exact⟨by rw[az (S7 (fl c d))];exact f0,f1,f2,f3,f4,f5⟩
  have I0:Inv X M σ (aW H s.heap.objs.size (.tup [x,y])) {s with heap:=s.heap.push {cls:=.type "tuple",data:=.seq #[u,v]},toks:=s.toks}:=
   I.laid (t':=s.toks) (λb o q=>Sy _ q) (SB _) (show ci X.prog X.w _ _ _ (.tup [x,y]) from
    ⟨Va (fC (by simp)),[u,v],.cons ru (.cons rv .nil),⟨_,SC _ rfl,rfl,_,rfl⟩,_,SC _ rfl,rfl⟩)
  have I1:Inv X M σ (aW H s.heap.objs.size (.tup [x,y])) {s with heap:=g',toks:=s.toks}:=by
   have:=Inv.turnedL (t':=s.toks) (h':=g') [z,TI,TO,l,i2] I0 J λc o d e=>?_
   ·omega
   simp only[S6,WM,or_false,not_or] at d
   by_cases ec:c=s.heap.objs.size
   ·subst ec;have e:(s.heap.push {cls:=.type "tuple",data:=.seq #[u,v]}).get? s.heap.objs.size=p5 o:=e;rw[SC _ rfl] at e;nofun
   ·have e:(s.heap.push {cls:=.type "tuple",data:=.seq #[u,v]}).get? c=p5 o:=e;rw[YL _ _ _ ec] at e;exact(C c d.1).trans (T c o d.1 d.2.2.1 d.2.2.2.1 d.2.2.2.2 e)
  refine⟨.ref s.heap.objs.size,aW H s.heap.objs.size (.tup [x,y]),I1,rfl,⟨_,rfl,hn,λxs' ys' R Ty=>⟨x,y,by rw[I.list_inj R n];exact N,by rw[I.list_inj Ty m];exact hy,rfl⟩⟩,⟨XV,L,⟨_,_,G⟩,XL,Z⟩,λc d=>(J c d).1⟩
 done:=by
  intro X U hw Y d i M s σ H E I Q st O;subst U hw Y;obtain⟨xs,ys,n,m,N⟩:=O;obtain⟨r,t,px,Tm⟩:=I.list n;obtain⟨A,B,V,S⟩:=I.list m;obtain⟨hz,f,⟨p,q,j⟩,F,D⟩:=st;have l1:=t.length;have l2:=B.length;refine wpAny_pyNext_zip_end (I.ok.hd d) AP hz f j F D (show s.heap.IsList a r.toArray from px.isList) (show s.heap.IsList b A.toArray from V.isList) (N.imp (λe=>by simp;nofun) λe=>by simp;nofun) λg T=>⟨rfl,?_⟩
  refine Inv.turnedL [z,TI,TO,l,i2] I Q λc o d e=>?_
  grind
 self:=λ_ _ _ _ _ st h=>let⟨hz,_⟩:=st;jbJ hz h
section
variable {X:Cx}{p:Pos}
def uU(xs ys:List D):List D:=(Su (min xs.length ys.length)).map λ(i:Nat)=>D.tup [xs.getD i .non,ys.getD i .non]
def Ht(f g:FE):FA:=λρ=>match f ρ,g ρ with
 |some (.lst xs),some (.lst ys)=>p5 (uU xs ys)
 |_,_=>Sr
theorem Dq(h:Ht f g ρ=p5 ds): ∃xs ys,f ρ=p5 (.lst xs)/\g ρ=p5 (.lst ys)/\ds=uU xs ys:=by
 unfold Ht at h;split at h
 ·nofun
 nofun
theorem EJ {K:SA}{ds es:List D}(g:SqL K W a xs)(c:SqL K W b ys)(m:Reps K W xs ds)(j:Reps K W ys es):pk K W (RQ K a b) (uU ds es):=by
 have I:=m.length;have M:=j.length;have x:(uU ds es).length=min ds.length es.length:=by simp[uU]
 refine⟨λi d H e s=>?_,λH s=>⟨_,_,ab.seq s g,ab.seq s c,?_⟩⟩
 ·have J:i<min ds.length es.length:=by rw[<-x];exact(SK.mp e).1
  have C:xs[i]? =p5 xs[i]:=SJ (by grind);have w:ys[i]? =p5 ys[i]:=SJ (by omega);refine⟨⟨_,_,xs[i],ys[i],ab.seq s g,ab.seq s c,C,w⟩,λy F ⟨T,p,l,B⟩=>?_⟩;subst p;obtain⟨u,v,r,h,q⟩:=B _ _ (ab.seq s g) (ab.seq s c);subst q;refine⟨aJ l _,λhid z k=>?_⟩;have n:hid T=false:=by
   cases eh:hid T with
   |false=>rfl
   |true=>obtain⟨o,N⟩:=z T eh;nofun
  obtain⟨d',L,E⟩:=m.get' r;obtain⟨f,G,t⟩:=j.get' h;have A:d=.tup [d',f]:=by
   unfold uU at e;nofun
  rw[A];exact gL l n (.cons (E.mono k) (.cons (t.mono k) .nil))
 ·lia
theorem Db(n a b:Nat)(c:a<n)(d:b<n):ZipApart (n+4) (n+2) (n+3) n (n+1) a b:=by
 constructor<;>(show¬ @Eq Nat _ _)<;>omega
theorem J3(h1:DP X c .s e1 f)(N:DP X c .s e2 g)(hm:X.mg "zip"=Sr)(S:Gl X "zip":=by rfl)(L:SF [e1,e2] X.env=(Pa,eval e1 X.env)::SF [e2] X.env:=by rfl)(k:SF [e2] X.env=[(Pa,eval e2 X.env)]:=by rfl):DIp X c (.Tuple es x1 tp) (.Call (.Name "zip" p) [e1,e2] [] pos) (Ht f g):=by
 intro hid ρ O s σ H R I P;obtain⟨G,ds,T,q⟩:=P;obtain⟨xs,ys,Q,a2,rfl⟩:=Dq T;refine Call_ (iR (u:=.type "zip") I S hm (by rfl) (UU (bB (bn (h1 hid ρ) (bn (N hid ρ) bW k) L pos O s σ H (λvs l=> ∃v w,vs=[v,w]/\ab H l/\Rep X.K (vw l hid) v (.lst xs)/\Rep X.K (vw l hid) w (.lst ys)) I ⟨G,_,Q,λv l s' r=>⟨G.ext s',_,a2,λw H'' d B=>⟨v,w,rfl,s'.trans d,Rep.mono (aC d) r,B⟩⟩⟩) λvs a ⟨ws,F,j,r1,v,w,e,s',r,B⟩=>?_) L (by rw[k];rfl)));subst e;cases r1 with
 |cons ra z=>
  cases z with
  |cons z rc=>
   cases rc;cases r with
   |lst m t2=>
    cases B with
    |lst n V=>
     have m:=SqL.of (K:=X.K) m;have n:=SqL.of (K:=X.K) n;cases ra;cases z;obtain⟨y,Y,px,U⟩:=j.list ((bU _ _).seq m);obtain⟨E,ST,py,W⟩:=j.list ((bU _ _).seq n);have M: ∀ {c:Addr} {us},a.heap.IsList c us->c<a.heap.objs.size:=λh=>let⟨_,e,_⟩:=h;SH e
     have J:a.heap.IsList _ y.toArray:=px.isList;have i:a.heap.IsList _ E.toArray:=py.isList;have m1:=M J;have m2:=M i;refine call_zip_2 J i λg hz D C A t hsz Z=>?_
     refine jbJ hz ⟨_,[a.heap.objs.size+4,a.heap.objs.size+2,a.heap.objs.size+3,a.heap.objs.size,a.heap.objs.size+1],_,_,F,rfl,j.kept (t':=a.toks) λb o e=>Z b o e,GY _ _ _ _ _ _ _ (Db _ _ _ m1 m2),⟨hz,D,⟨_,_,C⟩,A,t⟩,λb x=>?_,q _ F s' (EJ m n t2 V)⟩;have x:a.heap.objs.size<=b:=by
      grind
     exact j.fpOk x (j.hok.fresh x)
end
section
theorem ci.there{h:Heap}(x:ci P w H h a o): ∃u,h.get? a=p5 u:=by
 induction o with
 |lst xs=>obtain⟨_,_,_,_,e⟩:=x;exact⟨_,e⟩
 |tup xs=>obtain⟨_,_,_,⟨_,e,_⟩,_⟩:=x;exact⟨_,e⟩
 |dK kvs=>obtain⟨_,_,_,_,o,_,_,e,_⟩:=x;exact⟨_,e⟩
 |dT kvs=>obtain⟨_,_,_,_,o,_,_,e,_⟩:=x;exact⟨_,e⟩
 |set S n=>obtain⟨o,_,_,_,e,_⟩:=x;exact⟨_,e⟩
 |tst xs=>obtain⟨o,_,_,_,e,_⟩:=x;exact⟨_,e⟩
 |ins C i c=>obtain⟨_,_,_,e,_⟩:=x;exact⟨_,e⟩
 |own y=>obtain⟨_,e⟩:=x;exact⟨_,e⟩
 |xd c=>obtain⟨_,⟨_,_,_,e,_⟩,_⟩:=x;exact⟨_,e⟩
 |rng g d=>obtain⟨_,_,_,e⟩:=x;exact⟨_,e⟩
 |frz ob u b=>obtain⟨e,_⟩:=x;exact⟨_,e⟩
 |nst p u b=>exact b x
 |tbl j=>exact⟨_,show h.get? a=p5 _ from x⟩
 |met f y=>exact⟨_,show h.get? a=p5 _ from x⟩
 |ext φ=>obtain⟨_,⟨_,e⟩,_⟩:=x;exact⟨_,e⟩
end
section
def nQ(f:FE):FA:=λρ=>(f ρ).bind λd=>match d with
 | .lst ds=>p5 ds
 | .tup ds=>p5 ds
 |_=>Sr
theorem cY {j a:Expr}(h:DP X c .s a f):DIp X c j a (nQ f):=λhid ρ g s σ H R I e=>by
 obtain⟨i,ds,b,q⟩:=e;unfold nQ at b;cases e2:f ρ with
 |none=>nofun
 |some d=>
  rw[e2,SG] at b;cases d with
  |lst xs=>cases b;exact dU h hid ρ g s σ H R I ⟨i,ds,by unfold gu;rw[e2];rfl,q⟩
  |tup xs=>cases b;exact AZ h hid ρ g s σ H R I ⟨i,ds,by unfold yr;rw[e2];rfl,q⟩
  |_=>nofun
end
theorem uT{x1}:SF (.Tuple es x1 pos::rest) env=(Pa,eval (.Tuple es x1 pos) env)::SF rest env:=by rfl
@[elab_as_elim] theorem ar0 {motive:List Sw->Prop} (us:List Sw) (b:us.length=0) (h:motive []):motive us:=by
 cases us with
 |nil=>exact h
 |cons a r=>exact absurd b (Nat.succ_ne_zero _)
@[elab_as_elim] theorem ar1 {motive:List Sw->Prop} (us:List Sw) (b:us.length=1) (h: ∀a,motive [a]):motive us:=by
 cases us with
 |nil=>nofun
 |cons a r=>nofun
@[elab_as_elim] theorem ar2 {motive:List Sw->Prop} (us:List Sw) (b:us.length=2) (h: ∀a c,motive [a,c]):motive us:=by
 cases us with
 |nil=>nofun
 |cons a r=>exact ar1 (motive:=λr=>motive (a::r)) r (Xl b) (h a)
@[elab_as_elim] theorem ar3 {motive:List Sw->Prop} (us:List Sw) (b:us.length=3) (h: ∀a d c,motive [a,d,c]):motive us:=by
 cases us with
 |nil=>nofun
 |cons a r=>exact ar2 (motive:=λr=>motive (a::r)) r (Xl b) (h a)
@[elab_as_elim] theorem ar4 {motive:List Sw->Prop} (us:List Sw) (b:us.length=4) (h: ∀a e d c,motive [a,e,d,c]):motive us:=by
 cases us with
 |nil=>nofun
 |cons a r=>exact ar3 (motive:=λr=>motive (a::r)) r (Xl b) (h a)
@[elab_as_elim] theorem ar5 {motive:List Sw->Prop} (us:List Sw) (b:us.length=5) (h: ∀a f e d c,motive [a,f,e,d,c]):motive us:=by
 cases us with
 |nil=>exact absurd b ()
 |cons a r=>exact ar4 (motive:=λr=>motive (a::r)) r (Xl b) (h a)
@[elab_as_elim] theorem ar6 {motive:List Sw->Prop} (us:List Sw) (b:us.length=6) (h: ∀a g f e c d,motive [a,g,f,e,c,d]):motive us:=by
 cases us with
 |nil=>exact absurd b ()
 |cons a r=>exact ar5 (motive:=λr=>motive (a::r)) r (Xl b) (h a)
@[irreducible] def QP (X:Cx) (c:Ct) (e:Expr) (f:FE):Prop:=DP X c .s e f
@[irreducible] def QA (X:Cx) (c:Ct) (es:List Expr) (f:FA):Prop:=DA X c es f
@[irreducible] def QS (X:Cx) (c:Ct) (k:Kd) (st:Stmt) (t:FS):Prop:=DS X c k st t
@[irreducible] def QSs (X:Cx) (c:Ct) (k:Kd) (st:List Stmt) (t:FS):Prop:=z7 X c k st t
section
variable {X:Cx}{pos:Pos}{st:Stmt}
theorem QP.of(h:DP X c .s e f):QP X c e f:=by unfold QP;exact h
theorem QP.dp(h:QP X c e f):DP X c .s e f:=by unfold QP at h;exact h
theorem QA.da(h:QA X c es fs):DA X c es fs:=by unfold QA at h;exact h
theorem QS.of(h:DS X c k st t):QS X c k st t:=by unfold QS;exact h
theorem QS.ds(h:QS X c k st t):DS X c k st t:=by unfold QS at h;exact h
theorem QSs.to(h:QSs X c k rest t):z7 X c k rest t:=by unfold QSs at h;exact h
theorem HW:QA X c [] aj:=by unfold QA;exact ak
theorem Iy(h:QP X c e f)(a:QA X c es fs)(b:SF (e::es) X.env=(Pa,eval e X.env)::SF es X.env:=by rfl):QA X c (e::es) (af f fs):=by unfold QA;exact ag h.dp a.da b
theorem MK {x1}(h:QA X c es fs):QP X c (.Tuple es x1 pos) (cQ fs):=.of (cf h.da)
theorem Nn(h:QA X c es fs):QP X c (.List es pos) (cD fs):=.of (DP.toS (df h.da))
theorem Kc(i:Nat)(d:X.N.Nodup)(j:QP X c e f)(g:X.N[i]? =p5 x:=by rfl)(a:CO X.env.scope x:=by first|exact TL rfl|exact Te rfl)(b:Uw e (some (.Name x pos')) pos.line X.env=pure false:=by rfl)
 (h:X.fn x=S1\/X.env.scope.names.lookup x=p5 .local:=by first|exact .inl rfl|exact .inr rfl|assumption):QS X c k (.Assign [.Name x pos'] e pos) (br i f):=.of (aK i d j.dp g a b h)
theorem lB(a:QS X c k st t)(b:QSs X c k rest u):QSs X c k (st::rest) (aF t u):=by unfold QSs;exact ai a.ds b.to
theorem AT(h:QS X c k st t):QSs X c k [st] t:=by unfold QSs;exact am h.ds
end
section
variable {κ:Type} [DecidableEq κ]
def cN(kvs:List (κ×V))(k:κ):Option V:=(kvs.find? λa=>decide (a.1=k)).map (·.2)
def fX(kvs:List (κ×V))(k:κ)(v:V):List (κ×V):=
 if(kvs.any λa=>decide (a.1=k))=S1 then kvs.map (λa=>if a.1=k then(a.1,v) else a) else kvs++[(k,v)]
theorem lA {p:κ×V}{r:List (κ×V)}(e:p.1=k):cN (p::r) k=p5 p.2:=by simp[cN,UK,e]
theorem kP {p:κ×V}(e: ¬p.1=k):cN (p::r) k=cN r k:=by simp[cN,UK,e]
theorem wK(k:κ): ∀kvs:List (κ×V),(kvs.any λa=>decide (a.1=k))=(cN kvs k).isSome
 | []=>rfl
 |p::r=>by
  rw[YW]
  by_cases e:p.1=k
  ·simp only[lA e,v3 e,Bool.true_or,jaz]
  ·rw[kP e,v7 e,Bool.false_or];exact wK k r
theorem iU(kvs:List (κ×V))(k:κ)(v:V):(fX kvs k v).length<=kvs.length+1:=by
 unfold fX;grind[VD]
theorem oa.isSome_eq {o:Option V}{u:Option Sw}(r:oa o u):o.isSome=u.isSome:=by
 cases o with
 |none=>cases u with
  |none=>rfl
  |some _=>exact(show False from r).elim
 |some _=>cases u with
  |none=>exact(show False from r).elim
  |some _=>rfl
theorem oa.getD {o:Option V}{u:Option Sw}(r:oa o u)(a:b6 d d'):b6 (o.getD d) (u.getD d'):=by
 cases o with
 |none=>cases u with
  |none=>exact a
  |some _=>exact(show False from r).elim
 |some _=>cases u with
  |none=>exact(show False from r).elim
  |some _=>exact r
theorem KV.val(r:KV kvs vs)(k:κ):oa (cN kvs k) (jcy vs k):=by
 unfold KV at r
 induction r with
 |nil=>exact True.intro
 | @cons p q i c h t g=>
   obtain⟨d,a⟩:=h
   by_cases e:p.1=k
   ·have f:q.1=k:=d.symm.trans e;have b:jcy (q::c) k=p5 q.2:=by simp[jcy,UK,f]
    rw[lA e,b];exact a
   grind[jcy,kP]
theorem KV.any {kvs:List (κ×V)}{vs:List (κ×Sw)}(r:KV kvs vs)(k:κ):(kvs.any λa=>decide (a.1=k))=vs.any λa=>decide (a.1=k):=by
 unfold KV at r
 induction r with
 |nil=>rfl
 |cons h t b=>nofun
theorem KV.repl {kvs:List (κ×V)}{vs:List (κ×Sw)}(r:KV kvs vs)(k:κ)(f:b6 y u):
 KV (kvs.map λa=>if a.1=k then(a.1,y) else a) (vs.map λa=>if a.1=k then(a.1,u) else a):=by
 unfold KV at r⊢
 induction r with
 |nil=>exact .nil
 | @cons p q i g h t b=>
   rw[SD,SD];refine .cons ?_ b;obtain⟨d,c⟩:=h
   by_cases e:p.1=k
   ·nofun
   nofun
theorem KV.put(r:KV kvs vs)(k:κ)(a:b6 y u):KV (fX kvs k y) (stored vs k u):=by
 unfold fX stored;rw[r.any k]
 by_cases e:(vs.any λb=>decide (b.1=k))=S1
 ·rw[if_pos e,if_pos e];exact r.repl k a
 ·rw[if_neg e,if_neg e];exact jgo r ⟨rfl,a⟩
theorem KV.length {kvs:List (κ×V)}{vs:List (κ×Sw)}(r:KV kvs vs):kvs.length=vs.length:=UF r
end
theorem tE(r:b6 (kV k) u):(bR P w).is k u=true:=by
 cases k with
 |inl i=>obtain⟨t,e⟩:=(show∃t,u=W7 i t from r);subst e;exact wb P w i t
 |inr x=>obtain⟨t,e⟩:=(show∃t,u=jeu x t from r);subst e;exact wP P w x t
theorem ma: ∀ {ks:List aP} {us:List Sw},cc (ks.map kV) us->ItemsAre (bR P w) ks us
 | [],_,r=>by rw[jaY] at r;cases r;exact .nil
 |k::ks,_,r=>by
  rw[SD] at r;cases r with
  |cons h t=>exact .cons (tE h) (ma t)
abbrev KTd(H:Hp):List (List aP×V)->List (List aP×Addr×Sw)->Prop:=Paired λp q=>p.1=q.1/\H q.2.1=p5 (.tup (p.1.map kV))/\b6 p.2 q.2.2
theorem KTd.val(r:KTd H kvs xs)(k:List aP):oa (cN kvs k) ((Z7 xs k).map (·.2)):=by
 induction r with
 |nil=>exact True.intro
 | @cons p q i c h t g=>
   obtain⟨d,_,a⟩:=h
   by_cases e:p.1=k
   ·have f:q.1=k:=d.symm.trans e;have b:Z7 (q::c) k=p5 q.2:=by simp[Z7,UK,f]
    rw[lA e,b];exact a
   ·grind[Z7,kP]
theorem KTd.repl{kvs:List (List aP×V)}{xs:List (List aP×Addr×Sw)}(r:KTd H kvs xs)(k:List aP)(g:b6 y u):
 KTd H (kvs.map λa=>if a.1=k then(a.1,y) else a) (xs.map (putAt k u)):=by
 induction r with
 |nil=>exact .nil
 | @cons p q j i h t b=>
   rw[SD,SD];refine .cons ?_ b;obtain⟨d,c,f⟩:=h;unfold putAt
   by_cases e:p.1=k
   ·lia
   ·lia
theorem KTd.put(r:KTd H kvs xs)(k:List aP)(c:H b=p5 (.tup (k.map kV)))(a:b6 y u):
 KTd H (fX kvs k y) (storedH xs k b u):=by
 have e:(kvs.any λd=>decide (d.1=k))=(Z7 xs k).isSome:=by
  rw[wK,(r.val k).isSome_eq,WA]
 unfold fX storedH;rw[e]
 by_cases q:(Z7 xs k).isSome=S1
 ·rw[if_pos q,if_pos q];exact r.repl k a
 ·rw[if_neg q,if_neg q];exact jgo r ⟨rfl,c,a⟩
theorem KTd.keeps(r:KTd H kvs xs)(a: ∀b ys,H b=p5 (.tup ys)->H' b=p5 (.tup ys)):KTd H' kvs xs:=
 Paired.mapP r λ_ _ z=>⟨z.1,a _ _ z.2.1,z.2.2⟩
section
variable {h:Heap}
theorem LJ(ok:HOk P w H h)(e:Rd H a u):ci P w H h a u:=e.ok ok
theorem nL {kvs:List (aP×V)}(ok:HOk P w H h)(e:Rd H a (.dK kvs)):kvs.length<=SU/\(a==UP)=Pa/\ ∃vs,KV kvs vs/\h.DictOf (bR P w) a vs:=
 show ci P w H h a (.dK kvs) from LJ ok e
theorem Pu {kvs:List (aP×V)}(ok:HOk P w H h)(e:H a=p5 (.dK kvs)):kvs.length<=SU/\(a==UP)=Pa/\ ∃vs,KV kvs vs/\h.DictOf (bR P w) a vs:=nL ok (.inl e)
theorem jW {ks:List aP}(ok:HOk P w H h)(e:H a=p5 (.tup (ks.map kV))):(W6 (bR P w)).is h ks a:=by
 obtain⟨_,b,r,⟨o,d,c,n,f⟩,_⟩:=(show ci P w H h a (.tup (ks.map kV)) from ok a _ e)
 exact⟨o,b.toArray,n,d,c,f,by simpa using ma r⟩
theorem nA {kvs:List (List aP×V)}(ok:HOk P w H h)(e:Rd H a (.dT kvs)):kvs.length<=SU/\(a==UP)=Pa/\
 ∃xs,KTd H kvs xs/\h.DictOfH (W6 (bR P w)) a xs:=by
 obtain⟨z,y,xs,r,o,es,ep,f,d,g,k,i⟩:=(show ci P w H h a (.dT kvs) from LJ ok e)
 refine⟨z,y,xs,r,o,es,ep,f,d,g,k,λx b=>?_,i⟩;have c: ∀ {l:List (List aP×V)} {m:List (List aP×Addr×Sw)},KTd H l m-> ∀x∈m,(W6 (bR P w)).is h x.1 x.2.1:=by
  intro l m q
  induction q with
  |nil=>intro x b;nofun
  | @cons p q u s n t j=>
    intro x b;rcases S6.mp b with e|b
    ·subst e;exact jW ok (by nofun)
    ·exact j x b
 exact c r x b
theorem wl {kvs:List (List aP×V)}(ok:HOk P w H h)(e:H a=p5 (.dT kvs)):kvs.length<=SU/\(a==UP)=Pa/\
 ∃xs,KTd H kvs xs/\h.DictOfH (W6 (bR P w)) a xs:=nA ok (.inl e)
end
def lC(H:Hp)(a:Addr)(y:V)(r:Option V):Prop:=
 (∃kvs k,Rd H a (.dK kvs)/\y=kV k/\r=cN kvs k)\/ ∃kvs k b,Rd H a (.dT kvs)/\y=.ref b/\H b=p5 (.tup (k.map kV))/\r=cN kvs k
def t6(H:Hp)(a:Addr)(y v:V)(c:Hp):Prop:=
 (∃kvs k,H a=p5 (.dK kvs)/\y=kV k/\kvs.length<SU/\c=aW H a (.dK (fX kvs k v)))\/
 ∃kvs k b,H a=p5 (.dT kvs)/\y=.ref b/\H b=p5 (.tup (k.map kV))/\kvs.length<SU/\c=aW H a (.dT (fX kvs k v))
theorem lC.k{k:aP}(e:H a=p5 (.dK kvs)):lC H a (kV k) (cN kvs k):=.inl ⟨kvs,k,.inl e,rfl,rfl⟩
theorem lC.t{k:List aP}(e:H a=p5 (.dT kvs))(c:H b=p5 (.tup (k.map kV))):lC H a (.ref b) (cN kvs k):=.inr ⟨kvs,k,b,.inl e,rfl,c,rfl⟩
theorem t6.k{kvs:List (aP×V)}{k:aP}(e:H a=p5 (.dK kvs))(b:kvs.length<SU):t6 H a (kV k) v (aW H a (.dK (fX kvs k v))):=.inl ⟨kvs,k,e,rfl,b,rfl⟩
theorem t6.t{kvs:List (List aP×V)}{k:List aP}(e:H a=p5 (.dT kvs))(c:H b=p5 (.tup (k.map kV)))(d:kvs.length<SU):
 t6 H a (.ref b) v (aW H a (.dT (fX kvs k v))):=.inr ⟨kvs,k,b,e,rfl,c,d,rfl⟩
section
variable {X:Cx}{H:Hp}{s:Sx}{o:Option V}{A:Tr}
theorem Inv.big(I:Inv X aa σ H s):UP<s.heap.objs.size:=by
 have h:UC<s.heap.objs.size:=(I.mod.glob.keeps I.bk).lt;exact Zi () h
theorem Da(x:A.units+1<Tq)(I:Inv X aa σ H s)(g:lC H a y (p5 v))(n:b6 y u)(h: ∀f s',Inv X aa σ H s'->b6 v f->Q f s'):
 SL (model X.prog X.w) A (jae (.ref a) u) Q E s:=by
 rcases g with⟨kvs,k,e,i,l⟩|⟨kvs,k,b,e,i,q,l⟩
 ·subst i;obtain⟨z,t,vs,c,j⟩:=nL I.hok e;obtain⟨f,hw,d⟩:=oa.some_of (v:=v) (o:=jcy vs k) (by rw[l];exact c.val k);exact wpAny_getItem_of (tE n) j.mapOf hw (h f _ (I.tok _) d)
 ·subst i;cases (show u=Tc b from n);obtain⟨z,t,xs,c,j⟩:=nA I.hok e;obtain⟨f,hw,d⟩:=oa.some_of (v:=v) (o:=(Z7 xs k).map (·.2)) (by rw[l];exact c.val k);obtain⟨p,r,m⟩:=S0.mp hw;refine jaB (Uc x) (jW I.hok q) j r ?_
  rw[m];exact h f _ (I.tok _) d
theorem Rv(n:A.units+1<Tq)(I:Inv X aa σ H s)(g:lC H a y o)(j:b6 y u)(h: ∀s',Inv X aa σ H s'->Q (.bool o.isSome) s'):
 SL (model X.prog X.w) A (U0 .In u (.ref a)) Q E s:=by
 rcases g with⟨kvs,k,e,d,l⟩|⟨kvs,k,b,e,d,m,l⟩
 ·subst d;obtain⟨z,f,vs,c,i⟩:=nL I.hok e;refine wpAny_in_of (tE j) f i.mapOf ?_
  rw[<-(c.val k).isSome_eq,<-l];exact h _ (I.tok _)
 ·subst d;cases (show u=Tc b from j);obtain⟨z,f,xs,c,i⟩:=nA I.hok e;refine wpAny_in_heap (Uc n) (jW I.hok m) f i ?_
  have q:=(c.val k).isSome_eq;rw[WA] at q;rw[<-q,<-l];exact h _ (I.tok _)
theorem Ky(n:A.units+1<Tq)(I:Inv X aa σ H s)(g:lC H a y o)(j:b6 y u)(h: ∀s',Inv X aa σ H s'->Q (.bool (!o.isSome)) s'):
 SL (model X.prog X.w) A (U0 .NotIn u (.ref a)) Q E s:=by
 rcases g with⟨kvs,k,e,d,l⟩|⟨kvs,k,b,e,d,m,l⟩
 ·subst d;obtain⟨z,f,vs,c,i⟩:=nL I.hok e;refine wpAny_notIn_of (tE j) f i.mapOf ?_
  rw[<-(c.val k).isSome_eq,<-l];exact h _ (I.tok _)
 ·subst d;cases (show u=Tc b from j);obtain⟨z,f,xs,c,i⟩:=nA I.hok e;refine wpAny_notIn_heap (Uc n) (jW I.hok m) f i ?_
  have q:=(c.val k).isSome_eq;rw[WA] at q;rw[<-q,<-l];exact h _ (I.tok _)
theorem tY {h':Heap}{t':Nat}(I:Inv X aa σ H s)(g:MP (H a))(f:Tw a s.heap h')(h: ∃q,h'.get? a=p5 q)(c:ci X.prog X.w (aW H a ob) h' a ob):
 Inv X aa σ (aW H a ob) {s with heap:=h',toks:=t'}:=
 I.write (x:=a) (e:=a) g (.inl rfl) (λb q d z=>(f.2 b d).trans z) h c
theorem Ma{h':Heap}{kvs:List (aP×V)}(z:kvs.length<=SU)(c:(a==UP)=Pa)(b:KV kvs vs)(d:h'.DictOf (bR P w) a vs):
 ci P w H' h' a (.dK kvs):=⟨z,c,vs,b,d⟩
theorem CW(L:A.units+1<Tq)(I:Inv X aa σ H s)(g:t6 H a y v H')(C:b6 y u)(D:b6 v r)(h: ∀s',Inv X aa σ H' s'->Q Unit.unit s'):
 SL (model X.prog X.w) A (setItem (.ref a) u r) Q E s:=by
 rcases g with⟨kvs,k,e,o,l,t⟩|⟨kvs,k,b,e,o,B,l,t⟩
 ·subst o t;obtain⟨z,j,vs,d,n⟩:=Pu I.hok e;have hz:vs.length<=sizeLine:=by rw[<-d.length];exact z
  have m:(fX kvs k v).length<=sizeLine:=by have:=iU kvs k v;lia
  refine wpAny_setItem_pairs (hsz:=hz) (tE C) n λh' f p=>h _ ?_
  have M: ∃q,h'.get? a=p5 q:=let⟨q,_,_,i,_⟩:=f;⟨q,i⟩
  exact tY I (by rw[e];exact True.intro) p M (Ma m j (d.put k D) f)
 ·subst o t;cases (show u=Tc b from C);obtain⟨z,j,xs,d,n⟩:=wl I.hok e;have hz:xs.length<=sizeLine:=by grind[UF]
  have m:(fX kvs k v).length<=sizeLine:=by have:=iU kvs k v;lia
  refine wpAny_setItem_heap (hsz:=hz) (Uc L) (jW I.hok B) n λh' f p=>h _ ?_
  obtain⟨q,es,ep,i,F,J,G,_,K⟩:=f;refine tY I (by rw[e];exact True.intro) p ⟨q,i⟩ ⟨m,j,_,(d.put k B D).keeps λc ys x=>?_,q,es,ep,i,F,J,G,K⟩;rw[az (Lp x e (λz=>nomatch z))];exact x
end
section
variable {X:Cx}{kvs:List (aP×V)}
theorem PN(I:Inv X aa σ H s)(e:Rd H a (.dK kvs))(h: ∀t s',Inv X aa σ H s'->Q (.int kvs.length t) s'):SL (model X.prog X.w) A (call (.builtin "len") [.ref a]) Q E s:=by
 obtain⟨z,c,vs,b,d⟩:=nL I.hok e;refine call_len_dict c d (by rw[<-b.length];rw[T8] at z;lia) ?_
 rw[<-b.length];exact h _ _ (I.tok _)
end
def Dl(i:Expr):Prop:= ∀ov a,ZY i Pa ov a=operate [ov,a] (jae ov a)
theorem BT {prog:S9}{w:Tu}{A:Tr}{E:Sw->Sx->Prop}{s:Sx}{env:Env}{value slice:Expr}{pos:Pos}{T id:String}{Q:Sw->Sx->Prop}
 (hl:typeLookup (.type T) "__getitem__"=pure (p5 (.builtin id))) (hs:Dl slice)
 (h:SL (model prog w) A (eval value env) (λo s₁=>SL (model prog w) A (eval slice env) (λi s₂=>s₂.TypeIs o T/\SL (model prog w) A (jae o i) Q E s₂) E s₁) E s):
 SL (model prog w) A (eval (.Subscript value slice pos) env) Q E s:=by
 refine jcT (Tv h (λo s₁ h₁=>Tv h₁ (λi s₂ h₂=>?_) λ_ _ x=>x) λ_ _ x=>x);obtain⟨hT,h₂⟩:=h₂;unfold jao;refine Ss ?_
 rw[getitemInPython_of_ne hT.not_modules];refine Ss (XS hT hl ?_);have fin:SL (model prog w) A (ZY slice Pa o i) (λr s₃=>SL (model prog w) A (letTemporaryGo value o r>>=λ_=>pure r) Q E s₃) E s₂:=by
  rw[hs o i];exact wpAny_operating (Tv h₂ (λr s₃ h₃=>Ss (wpAny_letTemporaryGo (Sv h₃))) λ_ _ x=>x)
 first
  |exact Sv (Ss fin)
  |exact Ss (Sv (Ss fin))
  |exact Ss fin
theorem xf{s:Sx}(I:Inv X aa σ H s)(g:lC H a y o):s.TypeIs (.ref a) "dict":=by
 rcases g with⟨kvs,k,e,_,_⟩|⟨kvs,k,b,e,_,_,_⟩
 ·obtain⟨_,_,vs,_,c⟩:=nL I.hok e;exact c.typeIs
 ·obtain⟨_,_,xs,_,c⟩:=nA I.hok e;exact c.typeIs
def OJ(c ty:TE):TE:=λσ H Q=>c σ H λx d=>ty σ d λy b=> ∃a v,x=.ref a/\lC b a y (p5 v)/\Q v b
def Rn(ty c:TE):TE:=λσ H Q=>ty σ H λy d=>c σ d λx b=> ∃a o,x=.ref a/\lC b a y o/\Q (.bl o.isSome) b
def Ja(ty c:TE):TE:=λσ H Q=>ty σ H λy d=>c σ d λx b=> ∃a o,x=.ref a/\lC b a y o/\Q (.bl (!o.isSome)) b
def OG(d ty e:TE):TS:=λD σ H=>e σ H λv f=>d σ f λx g=>ty σ g λy c=> ∃a b,x=.ref a/\t6 c a y v b/\D.nx σ b
section
variable {X:Cx}{pos:Pos}
theorem zY(B:X.A.units+1<Tq)(z:PE X o td)(l:PE X i ty)(k:Dl i):PE X (.Subscript o i pos) (OJ td ty):=by
 intro e s σ H Q I h;refine BT YC.lookup k (bB (z e s σ H _ I h) λu j ⟨x,f,q,t,r⟩=>bB (l e j σ f _ q r) λD G c=>?_);obtain⟨y,n,d,w,a,v,C,g,m⟩:=c;subst C;obtain rfl:u=Tc a:=t;exact⟨xf d g,Da B d g w λF E p b=>⟨v,n,p,b,m⟩⟩
theorem Na(v:X.A.units+1<Tq)(j:PE X i ty)(t:PE X o td):PC X .In i o (Rn ty td):=by
 intro c s σ H Q I h;refine bB (j c s σ H _ I h) λz f ⟨y,e,n,r,p⟩=>bB (t c f σ e _ n p) λu C b=>?_
 obtain⟨x,l,d,q,a,ov,w,g,k⟩:=b;subst w;obtain rfl:u=Tc a:=q;exact Rv v d g r λB m=>⟨.bl ov.isSome,l,m,rfl,k⟩
theorem Dy(v:X.A.units+1<Tq)(j:PE X i ty)(t:PE X o td):PC X .NotIn i o (Ja ty td):=by
 intro c s σ H Q I h;refine bB (j c s σ H _ I h) λz f ⟨y,e,n,r,p⟩=>bB (t c f σ e _ n p) λu C b=>?_
 obtain⟨x,l,d,q,a,ov,w,g,k⟩:=b;subst w;obtain rfl:u=Tc a:=q;exact Ky v d g r λB m=>⟨.bl (!ov.isSome),l,m,rfl,k⟩
theorem Ap(F:X.A.units+1<Tq)(E:PE X o td)(t:PE X i ty)(hv:PE X value tv)(q:Uw value (p5 (.Subscript o i pos')) pos.line X.env=pure Pa):
 PS X (.Assign [.Subscript o i pos'] value pos) (OG td ty tv):=by
 intro b s σ H D I h;refine wpAny_Assign_Subscript (bB (hv b s σ H _ I h) λr p ⟨v,d,w,J,n⟩=>bB (E b p σ d _ w n) λu z ⟨x,j,c,B,f⟩=>bB (t b z σ j _ c f) λK L ⟨y,N,k,C,a,m,G,g,l⟩=>?_) q;subst G;obtain rfl:u=Tc a:=B;exact CW F k g C J λM e=>⟨σ,m,e,l⟩
end
theorem FL(h:Heap)(a:UP<h.objs.size):ci P w H (h.push {cls:=.type "dict",data:=.dict #[]}) h.objs.size (.dK []):=
 ⟨Ur _,beq_eq_false_iff_ne.mpr (To (S7 a)),[],.nil,Heap.DictOf.new h⟩
theorem Gv(h:Heap)(a:UP<h.objs.size):ci P w H (h.push {cls:=.type "dict",data:=.dict #[]}) h.objs.size (.dT []):=
 ⟨Ur _,beq_eq_false_iff_ne.mpr (To (S7 a)),[],.nil,_, #[],0,SC _ rfl,⟨rfl,rfl,rfl⟩,rfl,rfl,V4⟩
def Nq:TE:=λ_ H Q=> ∀p,H p=Sr->Q (.ref p) (aW H p (.dK []))
def MV:TE:=λ_ H Q=> ∀p,H p=Sr->Q (.ref p) (aW H p (.dT []))
section
theorem FC:PE X (.Dict [] [] pos) Nq:=λb s σ H Q I h=>
 jbK ⟨.ref s.heap.objs.size,_,I.laid (a:=s.heap.objs.size) (o:=.dK []) (t':=s.toks) (λ_ _ q=>Sy _ q) (SB _) (FL s.heap I.big),rfl,h _ (I.hok.fresh (SB _))⟩
theorem HA:PE X (.Dict [] [] pos) MV:=λb s σ H Q I h=>
 jbK ⟨.ref s.heap.objs.size,_,I.laid (a:=s.heap.objs.size) (o:=.dT []) (t':=s.toks) (λ_ _ q=>Sy _ q) (SB _) (Gv s.heap I.big),rfl,h _ (I.hok.fresh (SB _))⟩
end
structure M2(X:Cx)(o:Expr)(m:Str)(apos:Pos)(e f:Expr)(cpos:Pos):Prop where
 base:UG o m X.env (eval o X.env)=eval o X.env
 few:((Ul cpos (SF [e,f] X.env)).all (λx=> !x.1)&&(XO cpos (V7 [] X.env)).all (λx=>x.1.isSome)
  &&Oo (([e,f]:List Expr).length+([]:List VI).length+(if([]:List VI).isEmpty then 0 else 1)<30))=S1
 line:(apos.endLine==cpos.line)=S1
 trees:Ul cpos (SF [e,f] X.env)=[(Pa,eval e X.env),(Pa,eval f X.env)]
def QF(H:Hp)(a:Addr):Prop:=(∃kvs,Rd H a (.dK kvs))\/ ∃kvs,Rd H a (.dT kvs)
theorem GH{s:Sx}(I:Inv X aa σ H s)(d:QF H a):
 s.TypeIs (.ref a) "dict"/\(∀b,Tc a=.ref b-> ∃ob,s.heap.get? b=p5 ob/\ob.dict=Sr)/\(a==UP)=false:=by
 rcases d with⟨kvs,e⟩|⟨kvs,e⟩
 ·obtain⟨_,f,vs,_,c⟩:=nL I.hok e;refine⟨c.typeIs,λb q=>?_,f⟩;cases q;obtain⟨ob,_,_,h,g,_⟩:=c;exact⟨ob,h,g.2.1⟩
 ·obtain⟨_,f,xs,_,c⟩:=nA I.hok e;refine⟨c.typeIs,λb q=>?_,f⟩;cases q;obtain⟨ob,_,_,h,g,_⟩:=c;exact⟨ob,h,g.2.1⟩
section
variable {X:Cx}{o:Option V}{A:Tr}
theorem Mn(t:A.units+1<Tq)(I:Inv X aa σ H s)(g:lC H a y o)(n:b6 y u)(m:b6 d r)(h: ∀p s',Inv X aa σ H s'->b6 (o.getD d) p->Q p s'):
 SL (model X.prog X.w) A (call (.builtin "dict.get") [.ref a,u,r]) Q E s:=by
 rcases g with⟨kvs,k,e,i,l⟩|⟨kvs,k,b,e,i,q,l⟩
 ·subst i;obtain⟨z,j,vs,c,f⟩:=nL I.hok e;refine jbo Xu f.typeIs Zx (Zd _ _ _) (meets_dict_get_default (bR X.prog X.w) a (tE n) j r) ⟨_,f.mapOf,h _ _ (I.tok _) ?_⟩;rw[l];exact(c.val k).getD m
 ·subst i;cases (show u=Tc b from n);obtain⟨z,j,xs,c,f⟩:=nA I.hok e;refine jbo Xu f.typeIs Zx (Zd _ _ _) (meetsH_dict_get_default (W6 (bR X.prog X.w)) a b j r) ⟨Uc t,k,xs,jW I.hok q,f,h _ _ (I.tok _) ?_⟩;rw[l];exact(c.val k).getD m
end
def Nv(d ty f:TE):TE:=λσ H Q=>d σ H λx c=> ∃a,x=.ref a/\QF c a/\ty σ c λy e=>f σ e λz b=> ∃o,lC b a y o/\Q (o.getD z) b
section
variable {X:Cx}{apos:Pos}
theorem wR(N:X.A.units+1<Tq)(M:PE X o td)(P:PE X e ty)(q:PE X f tx)(m:M2 X o "get" apos e f cpos):PE X (.Call (.Attribute o "get" apos) [e,f] [] cpos) (Nv td ty tx):=by
 intro b s σ H Q I h;refine jbp m.base m.few m.line Ze Xu PySem.F.type_dict_get (bB (M b s σ H _ I h) λu D i=>?_);obtain⟨x,l,j,K,a,O,d,w⟩:=i;subst O;obtain rfl:u=Tc a:=K;obtain⟨G,E,_⟩:=GH j d;refine⟨G,E,?_⟩
 rw[m.trees];refine Vp rfl (WC (Wc (bB (P b D σ l _ j w) λR J ⟨y,r,k,L,p⟩=>
  Wc (bB (q b J σ r _ k p) λfv S ⟨z,C,t,B,ov,g,v⟩=>YI ?_))))
 exact Mn N t g L B λU T n c=>⟨_,C,n,c,v⟩
end
end
end Lake
namespace PySem
noncomputable section
open Sem (wp)
end
end PySem
namespace Lake
noncomputable section
open PySem PySem.Spec PyProof.Rows
end
end Lake
namespace PySem
noncomputable section
end
end PySem
namespace Lake
noncomputable section
open PySem PySem.Spec PyProof.Rows
def LD(K:SA):R2:=λx y H Q=> ∃a b xs ys,x=.ref a/\y=.ref b/\SqT K H a xs/\SqT K H b ys/\xs.length+ys.length<=SU/\
 (xs=[]->Q (.ref b) H)/\(xs≠[]->ys=[]->Q (.ref a) H)/\(xs≠[]->ys≠[]-> ∀p,H p=Sr->Q (.ref p) (aW H p (.tup (xs++ys))))
section
variable {X:Cx}
theorem Io:kZ X (Vt .Add) (LD X.K):=by
 intro q s σ H x y v u Q I j l h;obtain⟨a,b,xs,ys,f,g,k,e,hz,p,A,r⟩:=h
 by_cases c:xs=[]
 ·subst f g;cases j;cases l;obtain⟨d,o,B,_⟩:=I.tuple k;obtain⟨n,t,w,_⟩:=I.tuple e;obtain⟨m,F⟩:=I.fr;have i:d=[]:=o.nil_iff.mpr c;exact add_tuples F News.nil B w (λ_=>⟨.ref b,H,I,rfl,p c⟩) (λz=>absurd i z) (λz=>absurd i z) (by rw[<-o.length,<-t.length];exact hz)
 ·exact Ju q s σ H x y v u Q I j l ⟨a,b,xs,ys,f,g,k,e,c,hz,A c,r c⟩
def jq:D->D->Option D
 | .tup xs,.tup ys=>if xs.length+ys.length<=SU then p5 (.tup (xs++ys)) else Sr
 |_,_=>Sr
theorem JZ {K:SA}:rH K .s (LD K) jq:=by
 intro H hid v u x y d Q j h o n q;unfold jq at h;split at h
 ·split at h
  ·rename_i l
   cases h;obtain⟨a,xs,rfl,k,i,c⟩:=o.tup;obtain⟨b,ys,rfl,g,m,e⟩:=n.tup;refine⟨a,b,xs,ys,rfl,rfl,i,m,by rw[c.length,e.length];exact l,λz=>?_,λ_ z=>?_,λ_ z p f=>?_⟩
   ·subst z;cases c;exact q _ H (ab.refl _) (.tup g e)
   ·subst z;cases e;refine q _ H (ab.refl _) ?_
    rw[Uv];exact .tup k c
   ·exact q _ _ (aJ f _) (gL f (j p f) (c.append e))
  nofun
 nofun
theorem Cc(e:DP X c k1 a f)(d:DP X c k2 b g):DP X c .s (.BinOp a .Add b pos) (ar jq f g):=kE Io JZ e d
end
section
variable {X:Cx}{i2:Expr}{scope:Vj}{spos:Pos}{N':List Str}
theorem Eg(i:Nat)(u:X.calm=S1)(hN:X.N.Nodup)(n1:Nat)(hT1:gZ X.N.length g1)(hU1:ye n1 g1)(hT2:gZ n1 g2)(hi:LN X c t1 i1 gi1)
 (hg1: ∀C h g j,vR (aE X N' scope C h g j) c t1 g1) (hp1: ∀C h g j,vX (aE X N' scope C h g j) c ifs1 p1) (S: ∀C h g j,DIp (aE X N' scope C h g j) c t2 i2 gi2)
 (hg2: ∀C h g j,vR (aE X N' scope C h g j) c t2 g2) (V: ∀C h g j,vX (aE X N' scope C h g j) c ifs2 p2) (he: ∀C h g j,DP (aE X N' scope C h g j) c .s elt f)
 (hsw:Uw (.ListComp elt [⟨t1,i1,ifs1,0⟩,⟨t2,i2,ifs2,0⟩] scope pos) (p5 (.Name y py)) spos.line X.env=pure S1) (Y:X.N[i]? =p5 y) (hy:X.env.scope.names.lookup y=p5 .local)
 (hk:scope.kind=.function) (hs:Bb scope X.env.scope=S1) (hn:Bx X.N N' scope=S1) (hm:N'.length-X.N.length=m) (hn1:X.N.length<=n1) (M: ∀x,TY i1 X.env x=pure x) (B: ∀C h g j,∀x,TY i2 (aE X N' scope C h g j).env x=pure x) (ρ:aB):
 PS X (.Assign [.Name y py] (.ListComp elt [⟨t1,i1,ifs1,0⟩,⟨t2,i2,ifs2,0⟩] scope pos) spos) (IO (λσ H Q=> ∃hid,Mp X.K c hid .n (lQ m gi1 g1 p1 gi2 g2 p2 f) ρ σ H Q) (Af i)):=by
 intro O s σ H E I G;obtain⟨hid,sr,d,hd,q⟩:=G;obtain⟨ds,ys,e1,hc,hz,rfl⟩:=sk hd;rw[ZK _ _ _ _ hsw];refine Ss (Vb (Ss ?_));show SL _ X.A (do let _ <-comprehension (.ListComp elt [⟨t1,i1,ifs1,0⟩,⟨t2,i2,ifs2,0⟩] scope pos) scope X.env _ (jbf []) false (eval i1 X.env) (some (VY (.Name y py) X.env))) _ _ s;refine Ss (Tv (VP (use:=p5 (VY (.Name y py) X.env)) (Q:=λ_ s'=>SP X O E .next s') rfl M (dX λx Z=>I.ok.has x (gG hs x Z)) hk (i9 hs) ?_) (λ_ s' G=>Sv (Sv G)) λ_ _ e=>e);refine bB (hi hid ρ O s σ H (λJ l=>ab H l/\N5 X.K l (vw l hid) J ds) I ⟨sr,ds,e1,λJ l s1 io=>⟨s1,io⟩⟩) λv s1 h1=>bB h1 λitv s2 h2=>?_
 obtain⟨it,fp,tn,J,H2,rfl,p,T,st2,L,U,io⟩:=h2;refine nz (RR:=λacc C=>jcY (model X.prog X.w) X.A X.xe (p5 (VY (.Name y py) X.env)) (λ_ s'=>SP X O E .next s') acc C) u hk hs hn hm hT1 hU1 hn1 hT2 B hg1 hp1 S hg2 V he p (sr.ext U) T st2 L io hz hc ?_
 intro D C s' l xs hDge k hDC hD sm' Z rp ⟨mm,hns⟩ P hos r R hun;have I3:Inv X O σ l s':=p.call' (ch:=fp) hos hun R r λb F=>⟨(L b F).2.2.2.1,(L b F).2.1,(L b F).2.2.2.2.1,(L b F).2.2.2.2.2⟩
 have fin:=q _ l (U.trans sm') ⟨D,xs,ys,rfl,rfl,U.free hD,Z,rp⟩;have t: ∀b o,s2.heap.get? b=p5 o->b≠C:=λb o e z=>by subst z;exact absurd (SH e) (We.mpr k)
 have hLC:C≠X.env.locals:=λz=>by
  have:=p.lt;rw[<-z] at this;exact absurd this (We.mpr k)
 show SL _ X.A (VY (.Name y py) X.env (.ref D)) _ _ s';refine YF (mH (v:=.ref D) I3 hN Y (.inl hy) rfl (λW I4 F=>?_) (.inr hy));obtain⟨a,hsb,ha⟩:=F;have ST:C≠a:=by
  rcases ha with rfl|ha
  ·omega
  ·obtain⟨w',o,ho,_⟩:=p.cell y a ha;exact λz=>t a o ho z.symm
 refine⟨mm,hns.sameBut hsb ST,λh3 hs3=>⟨_,l,?_,fin⟩⟩;refine I4.turned (t':=W.toks) (it:=C) (λb o nb e=>(hs3.2 b nb).trans e) P hLC (.inr (Tz p.sz k)) (λx c' e z=>?_) (λq G z=>?_)
 ·obtain⟨w',o,ho,_⟩:=p.cell x c' e;exact t c' o ho z
 ·exact t q.1 q.2 (p.pin q G).1 z
theorem FM(i:Nat)(e:X.calm=S1)(J:X.N.Nodup)(j:Nat)(w:gZ X.N.length g1)(p:ye j g1)(E:gZ j g2)(P:LN X c t1 i1 gi1)
 (A: ∀C b a d,vR (aE X N' scope C b a d) c t1 g1) (B: ∀C b a d,vX (aE X N' scope C b a d) c ifs1 p1) (l: ∀C b a d,DIp (aE X N' scope C b a d) c t2 i2 gi2)
 (u: ∀C b a d,vR (aE X N' scope C b a d) c t2 g2) (n: ∀C b a d,vX (aE X N' scope C b a d) c ifs2 p2) (R: ∀C b a d,DP (aE X N' scope C b a d) c .s elt f)
 (F:Uw (.ListComp elt [⟨t1,i1,ifs1,0⟩,⟨t2,i2,ifs2,0⟩] scope pos) (p5 (.Name y py)) spos.line X.env=pure true:=by rfl) (o:X.N[i]? =p5 y:=by rfl) (L:X.env.scope.names.lookup y=p5 .local:=by rfl)
 (K:scope.kind=.function:=by rfl) (M:Bb scope X.env.scope=true:=by kernel_rfl) (O:Bx X.N N' scope=true:=by kernel_rfl) (Q:N'.length-X.N.length=m:=by rfl) (t:X.N.length<=j:=by exact SE rfl) (h: ∀x,TY i1 X.env x=pure x:=by intro _;rfl) (g: ∀C b a d,∀x,TY i2 (aE X N' scope C b a d).env x=pure x:=by intros;rfl):
 DS X c k (.Assign [.Name y py] (.ListComp elt [⟨t1,i1,ifs1,0⟩,⟨t2,i2,ifs2,0⟩] scope pos) spos) (dh i (lQ m gi1 g1 p1 gi2 g2 p2 f)):=λρ=>PS.imp (Eg i e J j w p E P A B l u n R F o L K M O Q t h g ρ) λD σ H G=>by
 obtain⟨hid,I,q⟩:=G;unfold dh at q;cases e1:lQ m gi1 g1 p1 gi2 g2 p2 f ρ with
 |none=>rw[e1] at q;exact q.elim
 |some z=>
  rw[e1] at q;exact⟨hid,I,z,e1,λv S s r=>JD (I.post s r ()) q⟩
end
def vA(i:Nat)(ρ:aB):Option (List (aP×D)):=match ρ[i]? with
 |some (.ob (.dK kvs))=>p5 kvs
 |_=>Sr
theorem sf(h:vA i ρ=p5 kvs):ρ[i]? =p5 (.ob (.dK kvs)):=by
 unfold vA at h;grind
def xR:D->Option aP
 | .int i=>p5 (.inl i)
 |_=>Sr
theorem j5{k:aP}(h:xR d=p5 k): ∃i,d=.int i/\k=.inl i:=by
 unfold xR at h;grind
def qy(kvs:List (aP×D))(k:aP):Option D:=(kvs.find? λa=>decide (a.1=k)).map (·.2)
def putD(kvs:List (aP×D))(k:aP)(d:D):List (aP×D):=
 if(kvs.any λa=>decide (a.1=k))=S1 then kvs.map (λa=>if a.1=k then(a.1,d) else a) else kvs++[(k,d)]
def KRl(K:SA)(F:Hp)(us:List (aP×V))(kvs:List (aP×D)):Prop:=us.map (·.1)=kvs.map (·.1)/\Reps K F (us.map (·.2)) (kvs.map (·.2))
theorem KRl.inv {K:SA}: ∀ {us:List (aP×V)} {kvs:List (aP×D)},KRl K F us kvs->(us=[]/\kvs=[])\/ ∃k v b d a,us=(k,v)::b/\kvs=(k,d)::a/\Rep K F v d/\KRl K F b a
 | [],[],_=>.inl ⟨rfl,rfl⟩
 | [],_::_,h=>by cases h.1
 |_::_,[],h=>by cases h.1
 |(k,v)::us,(i,d)::kvs,h=>by
  obtain⟨f,e⟩:=h;rw[SD,SD] at f e;injection f with c g
  cases e with
  |cons r j=>
   have c:k=i:=c;subst c;exact .inr ⟨k,v,us,d,kvs,rfl,rfl,r,g,j⟩
theorem KRl.val {K:SA}(k:aP): ∀ {us:List (aP×V)} {kvs:List (aP×D)},KRl K F us kvs->(cN us k=Sr/\qy kvs k=Sr)\/ ∃v d,cN us k=p5 v/\qy kvs k=p5 d/\Rep K F v d:=by
 intro us
 induction us with
 |nil=>
  intro kvs h;rcases h.inv with⟨_,rfl⟩|⟨_,_,_,_,_,e,_⟩
  ·exact .inl ⟨rfl,rfl⟩
  nofun
 |cons p us c=>
  intro kvs h;rcases h.inv with⟨e,_⟩|⟨g,v,b,d,a,e,rfl,r,f⟩
  ·nofun
  ·grind[qy,cN]
theorem KRl.any {K:SA}(k:aP){us:List (aP×V)}{kvs:List (aP×D)}(h:KRl K F us kvs):(us.any λa=>decide (a.1=k))=kvs.any λa=>decide (a.1=k):=by
 have b:(us.any λa=>decide (a.1=k))=(us.map (·.1)).any λx=>decide (x=k):=by rw[VL];rfl
 have c:(kvs.any λa=>decide (a.1=k))=(kvs.map (·.1)).any λx=>decide (x=k):=by rw[VL];rfl
 rw[b,c,h.1]
theorem KRl.cons {K:SA}{k:aP}(r:Rep K F v d)(h:KRl K F us kvs):KRl K F ((k,v)::us) ((k,d)::kvs):=⟨by rw[SD,SD,h.1],.cons r h.2⟩
theorem KRl.repl {K:SA}(k:aP)(r:Rep K F v d): ∀ {us:List (aP×V)} {kvs:List (aP×D)},KRl K F us kvs->KRl K F (us.map (λa=>if a.1=k then(a.1,v) else a)) (kvs.map (λa=>if a.1=k then(a.1,d) else a)):=by
 intro us
 induction us with
 |nil=>
  intro kvs h;rcases h.inv with⟨_,rfl⟩|⟨_,_,_,_,_,e,_⟩
  ·exact h
  nofun
 |cons p us f=>
  intro kvs h;rcases h.inv with⟨e,_⟩|⟨l,m,j,d',c,e,rfl,i,g⟩
  ·nofun
  ·cases e;rw[SD,SD]
   by_cases b:l=k
   ·rw[if_pos b,if_pos b];exact KRl.cons r (f g)
   ·rw[if_neg b,if_neg b];exact KRl.cons i (f g)
theorem KRl.put {K:SA}(k:aP)(r:Rep K F v d)(h:KRl K F us kvs):KRl K F (fX us k v) (putD kvs k d):=by
 unfold fX putD;rw[h.any k];split
 ·exact h.repl k r
 ·refine⟨by rw[Tb,Tb,h.1];rfl,?_⟩;rw[Tb,Tb];exact h.2.append (.cons r .nil)
theorem KRl.len {K:SA}{us:List (aP×V)}{kvs:List (aP×D)}(h:KRl K F us kvs):us.length=kvs.length:=by
 have:=congrArg Ua h.1;simpa using this
section
variable {K:SA}{c:Ct}{ρ:aB}{σ:St}
theorem SR.dict(h:SR K c hid ρ σ H)(e:vA i ρ=p5 kvs): ∃a us,σ[i]? =p5 (p5 (.ref a))/\hid a=S1/\c.H₀ a=Sr/\H a=p5 (.dK us)/\KRl K (vw H hid) us kvs:=by
 obtain⟨a,d,⟨b,f⟩,us,k,g,j⟩:=h.sl i _ (sf e);exact⟨a,us,d,b,f,k,g,j⟩
theorem SR.setD {b:Ob}(h:SR K c hid ρ σ H)(u:ri K c hid H a b)(no: ∀i:Nat,Ow ρ[i]? ->σ[i]? ≠p5 (p5 (.ref a)))(i:Nat):
 SR K c hid (ρ.set i (.ob b)) (σ.set i (p5 (.ref a))) H:=by
 refine⟨h.tr,h.ht,h.h0,h.kp,h.t0,h.c0,h.m0,by simp[h.len],λj s q=>?_,λj l z n p o t m=>?_⟩
 ·by_cases e:j=i
  ·subst e;have lt:j<ρ.length:=by
    have:=(SK.mp q).1;nofun
   rw[Ta lt] at q;cases q;exact⟨a,Ta (by rw[h.len];exact lt),u⟩
  ·rw[SS (To e)] at q;have w:=h.sl j s q;have es:(σ.set i (p5 (V.ref a)))[j]? =σ[j]? :=SS (To e);cases s with
   |no=>trivial
   |v d=>obtain⟨x,g,f⟩:=w;exact⟨x,es.trans g,f⟩
   |own ds=>obtain⟨a,xs,g,f⟩:=w;exact⟨a,xs,es.trans g,f⟩
   |arg ds=>obtain⟨a,xs,g,f⟩:=w;exact⟨a,xs,es.trans g,f⟩
   |ob b=>obtain⟨a,g,f⟩:=w;exact⟨a,es.trans g,f⟩
 ·by_cases r:j=i
  ·subst r;have k:l≠j:=λe=>n e.symm
   rw[SS (To k)] at o m;grind
  ·rw[SS (To r)] at p t
   by_cases k:l=i
   ·subst k
    by_cases lt:l<σ.length
    ·nofun
    nofun
   ·rw[SS (To k)] at o m;exact h.ap j l z n p o t m
theorem ri.kind{hid:bC}{b:Ob}(h:ri K c hid H a b)(o:uX b): ∃u,H a=p5 u/\ ∀p v,u≠ .nst p v:=by
 cases b with
 |nst us=>obtain⟨_,_,e,_⟩:=h;nofun
 |dQ kvs=>exact o.elim
 |frs d=>exact o.elim
 |dR kvs=>exact o.elim
 |dRs l=>exact o.elim
 |exc x n=>exact o.elim
 |dK kvs=>obtain⟨_,_,e,_⟩:=h;nofun
 |dT kvs=>obtain⟨_,_,e,_⟩:=h;nofun
 |set ds=>obtain⟨_,_,e,_⟩:=h;nofun
 |old d=>exact o.elim
 |jnk=>obtain⟨_,_,e⟩:=h;nofun
 |tset ks=>obtain⟨_,_,e,_⟩:=h;grind
 |dF kvs=>obtain⟨_,_,_,e,_⟩:=h;nofun
 |dN kvs=>obtain⟨_,_,_,e,_⟩:=h;nofun
theorem SR.putO{b b':Ob}{o':HO}(h:SR K c hid ρ σ H)(J:ρ[i]? =p5 (.ob b))(r:uX b)(Z:uX b')(O:σ[i]? =p5 (p5 (.ref a)))(X:At H a x)(g:hid x=S1)(t:c.H₀ x=Sr)
 (nt: ∀xs,o'≠ .tup xs) (N:ri K c hid (aW H x o') a b'):SR K c hid (ρ.set i (.ob b')) σ (aW H x o'):=by
 have lt:i<ρ.length:=(SK.mp J).1;have vv:vw (aW H x o') hid=vw H hid:=bV g;have A: ∀b o,H b=p5 o-> ∃D,(aW H x o') b=p5 D:=λb o q=>by
  grind[aA,az]
 have L:Ow ρ[i]? :=by rw[J];exact r
 obtain⟨a2,E,T⟩:=h.sl i _ J;rw[O] at E;cases E;obtain⟨w,S,Y⟩:=T.kind r;have M: ∀(j:Nat) (s:Sl) (f y:Addr) (C:HO),j≠i->ρ[j]? =p5 s->Ow (p5 s)->σ[j]? =p5 (p5 (.ref f))->H f=p5 C->(∀p v,C≠ .nst p v)->At H f y->y≠x:=λj s f y C n e o q hw Q G=>by
  have W:f≠a:=λz=>by subst z;exact h.ap j i f n (by nofun) L q O
  rcases X with rfl|⟨u,hu⟩
  ·exact G.ne W S Y
  ·intro z;subst z;rcases G with rfl|⟨u',V⟩
   ·nofun
   nofun
 have F: ∀j:Nat,Ow (ρ.set i (.ob b'))[j]? ->Ow ρ[j]? :=λj o=>by
  by_cases e:j=i
  ·nofun
  ·rw[SS (To e)] at o;exact o
 refine⟨λb I=>let⟨o,q⟩:=h.tr b I;A b o q,λb xs I q=>by
  by_cases e:b=x
  ·grind[aA]
  ·rw[az e] at q;exact h.ht b xs I q,h.h0,λb o q m=>?_,λb o q=>let⟨D,q2⟩:=h.t0 b o q;A b D q2,h.c0,h.m0,by simp[h.len],λj s e=>?_,λj l z n R D=>h.ap j l z n (F j R) (F l D)⟩
 ·rw[az (bF q t)];exact h.kp b o q m
 ·by_cases B:j=i
  ·subst B;rw[Ta lt] at e;cases e;exact⟨a,O,N⟩
  ·rw[SS (To B)] at e;have z:=h.sl j s e;cases s with
   |no=>trivial
   |v d=>obtain⟨x,k,g⟩:=z;exact⟨x,k,by nofun⟩
   |own ds=>obtain⟨f,xs,k,g,t,P,U⟩:=z;exact⟨f,xs,k,by rw[az (M j _ f f _ B e trivial k g nofun (.inl rfl))];exact g,t,P,by nofun⟩
   |arg ds=>obtain⟨f,xs,k,g,t,P,U⟩:=z;exact⟨f,xs,k,by rw[az (M j _ f f _ B e trivial k g nofun (.inl rfl))];exact g,t,P,by nofun⟩
   |ob b=>
    obtain⟨f,k,g⟩:=z
    exact⟨f,k,g.mono (λr y G o q=>by
     obtain⟨C,hw,Q⟩:=g.kind r
     rw[az (M j _ f y C B e r k hw Q G)];exact q) (by rw[vv];exact ab.refl _) λ_ _ _ q=>q⟩
theorem SR.putD(h:SR K c hid ρ σ H)(g:vA i ρ=p5 kvs)(d:σ[i]? =p5 (p5 (.ref a)))(r:KRl K (vw H hid) us' kvs'):SR K c hid (ρ.set i (.ob (.dK kvs'))) σ (aW H a (.dK us')):=by
 obtain⟨j,us,f,b,e,l,k⟩:=h.dict g;rw[d] at f;cases f;exact h.putO (sf g) trivial trivial d (.inl rfl) b e nofun ⟨⟨b,e⟩,us',aA,r.1,by rw[bV b];exact r.2⟩
end
section
variable {X:Cx}{k:Kd}{fk fv:FE}{pos:Pos}
def OM(i:Nat):FS:=λρ=>.nx (ρ.set i (.ob (.dK [])))
theorem Ir(i:Nat)(l:X.N.Nodup)(m:X.N[i]? =p5 x:=by rfl)(r:CO X.env.scope x:=by first|exact TL rfl|exact Te rfl)(j:Uw (.Dict [] [] p) (some (.Name x pos')) pos.line X.env=pure false:=by rfl)
 (n:X.fn x=S1\/X.env.scope.names.lookup x=p5 .local:=by first|exact .inl rfl|exact .inr rfl|assumption):DS X c k (.Assign [.Name x pos'] (.Dict [] [] p) pos) (OM i):=λρ=>PS.imp (j0 l m r FC j n) λD σ H f=>by
 obtain⟨hid,e,q⟩:=f;intro a d;have g:=aJ d (.dK []);have t:=e.fresh d;refine q _ _ (bA hid a) (SR.setD (a:=a) (b:=.dK []) (e.hide g d aA) ⟨⟨cm,e.fresh0 d⟩,[],aA,rfl,.nil⟩ (e.notOw t) i) λb o w=>?_
 obtain⟨s,h⟩:=cW.mp w;refine cW.mpr ⟨?_,g b o h⟩;unfold bA;rw[s];have:b≠a:=bF h d;simp[this]
def Bq(i:Nat)(fk fv:FE):FS:=λρ=>match vA i ρ with
 |some kvs=>(match fv ρ with
  |some d=>(match (fk ρ).bind xR with
   |some k=>if kvs.length<=1000 then .nx (ρ.set i (.ob (.dK (putD kvs k d)))) else .no
   |none=>.no)
  |none=>.no)
 |none=>.no
theorem KW(i:Nat)(T:X.A.units+1<Tq)(O:DP X c k1 ek fk)(hv:DP X c .s ev fv)(I:X.N[i]? =p5 y:=by rfl)(o:lW X.env.scope y:=by first|exact TL rfl|exact Te (TL rfl)|exact Te (Te rfl))(G:(y==("__debug__":Str))=false:=by decide)
 (m:(y==("__classdict__":Str))=false:=by decide) (P:Uw ev (p5 (.Subscript (.Name y py) ek pos')) pos.line X.env=pure false:=by rfl):
 DS X c k (.Assign [.Subscript (.Name y py) ek pos'] ev pos) (Bq i fk fv):=λρ=>PS.imp (Ap T (pv i I o G m) (jM λhid=>O hid ρ) (jM λhid=>hv hid ρ) P) λD σ H p=>by
 obtain⟨hid,f,q⟩:=p;unfold Bq at q;split at q
 ·rename_i kvs t
  split at q
  ·rename_i d B
   split at q
   ·rename_i W F
    split at q
    ·rename_i hz
     obtain⟨V,S,J⟩:=Sz.mp F;obtain⟨j,rfl,rfl⟩:=j5 J;obtain⟨a,us,r,R,U,M,l⟩:=f.dict t;refine⟨hid,f,d,B,λv w h x=>⟨.ref a,r,hid,f.ext h,_,S,λz C u L=>?_⟩⟩;have E:=(RK.b k1 L λa n=>(f.ext h).fresh n).int;cases E;have e:=h.trans u;have Q:C a=p5 (.dK us):=e _ _ M;refine⟨a,_,rfl,t6.k (k:=Wv j) Q (by rw[l.len];exact SZ hz ()),?_⟩;have g:Rep X.K (vw w hid) v d:=x;refine q _ _ hid ((f.ext e).putD t r (KRl.put (Wv j) (g.mono (aC u)) ⟨l.1,l.2.mono (aC e)⟩)) ?_
     rw[bV R];exact aC e
    ·exact q.elim
   ·exact q.elim
  ·exact q.elim
 ·exact q.elim
def Lg(i:Nat)(fk:FE):FE:=λρ=>(vA i ρ).bind λkvs=>((fk ρ).bind xR).bind λk=>qy kvs k
theorem M3(i:Nat)(P:X.A.units+1<Tq)(R:DP X c k1 e fe)(J:Dl e)(D:X.N[i]? =p5 y:=by rfl)(o:lW X.env.scope y:=by first|exact TL rfl|exact Te (TL rfl)|exact Te (Te rfl))(f:(y==("__debug__":Str))=false:=by decide)
 (m:(y==("__classdict__":Str))=false:=by decide):DP X c .s (.Subscript (.Name y py) e pos) (Lg i fe):=λhid ρ=>
 PE.imp (zY P (pv i D o f m) (R hid ρ) J) λσ H Q p=>by
  obtain⟨h,d,f,q⟩:=p;obtain⟨kvs,L,f⟩:=Sz.mp f;obtain⟨U,w,f⟩:=Sz.mp f;obtain⟨T,O,E⟩:=Sz.mp w;obtain⟨j,rfl,rfl⟩:=j5 E;obtain⟨a,us,x,V,S,G,u⟩:=h.dict L;refine⟨.ref a,x,h,_,O,λz g l F=>?_⟩;have B:=(RK.b k1 F λa n=>h.fresh n).int;cases B;have M:g a=some (.dK us):=l _ _ G;have C:KRl X.K (vw g hid) us kvs:=⟨u.1,u.2.mono (aC l)⟩
  rcases C.val (Wv j) with⟨r,t⟩|⟨v,d',r,t,I⟩
  ·nofun
  ·rw[t] at f;cases f;exact⟨a,v,rfl,r▸lC.k (k:=Wv j) M,q _ g l I⟩
end
open PySem PySem.W PySem.Spec PyProof.Rows
section
variable {A:Tr}
theorem zU(l:KdlSrc prog w T r d n P OK)(u:A.handled=Sr)(j:OK s.heap)(v:n<=SU)
 (q: ∀(g:Heap) (tk:Nat) (us:Array Sw),(∀b o,s.heap.get? b=p5 o->g.get? b=p5 o)->s.heap.objs.size<g.objs.size->ItemsOf P us n->R us.toList {s with heap:=g,toks:=tk}):SL (model prog w) A (collect (.ref r)) R E s:=by
 obtain⟨B,x⟩:=l.there _ j;unfold collect;refine Ss (Z0 (U3 ZL ?_));rw[UT ZM _];show SL _ A.in1 (jbf []>>=λz=>ZW (.builtin "list.__iadd__" ⟨[z,.ref r],[]⟩)) _ _ s;refine Ss (T6 (Sv ⟨YY Xh _,U3 jbj ?_⟩));rw[UT Xh _];show SL _ A.in1 (Yf (.ref s.heap.objs.size) (.ref r) (.ref s.heap.objs.size)) _ _ _;have i: ∀(g:Heap) (tk:Nat) (us:Array Sw) (m:Nat),(∀b o,s.heap.get? b=p5 o->g.get? b=p5 o)->g.get? s.heap.objs.size=p5 {cls:=.type "list",dict:=Sr,data:=.seq us m,slots:= #[]}->ItemsOf P us n->
  SL (model prog w) A (do
   match (<-load s.heap.objs.size).data with
    |Data.seq xs _=>pure xs.toList
    |_=>U2 "internal:collect") R E {s with heap:=g,toks:=tk}:=λg tk us m p a k=>Ss (jcM a (Sv (q g tk us p (SH a) k)))
 have ext:=kdl_extend (A:=A) (s:={s with heap:=s.heap.push {cls:=.type "list",data:=.seq ([]:List Sw).toArray}})
  (R:=λz t=> ∃(g:Heap) (tk:Nat) (us:Array Sw) (m:Nat),z=.ok (.ret (.ref s.heap.objs.size))/\t={s with heap:=g,toks:=tk}/\(∀b o,s.heap.get? b=p5 o->g.get? b=p5 o)/\g.get? s.heap.objs.size=p5 {cls:=.type "list",dict:=Sr,data:=.seq us m,slots:= #[]}/\ItemsOf P us n)
  l u (l.keep _ _ j λb _ o e=>Sy _ e) s.heap.objs.size (Ux B) (Ux x) (.ref s.heap.objs.size) 0 (SC _ rfl)
  (λg tk us m p a k=>⟨g,tk,us,m,rfl,rfl,λb o e=>p b o (S7 (SH e)) (Sy _ e),a,k⟩) v
 refine Tv ext (λz t h=>?_) λz t h=>by obtain⟨_,_,_,_,e,_⟩:=h;cases e
 cases z with
 |done f=>obtain⟨g,tk,us,m,e,rfl,p,a,k⟩:=h;cases e;exact i g tk us m p a k
 |again c=>exact⟨h.1,Vo h.2 λz t' y=>by obtain⟨g,tk,us,m,rfl,rfl,p,a,k⟩:=y;exact i g tk us m p a k⟩
end
section
theorem rJ {K:SA}: ∀a:List Int,Reps K F (a.map V.int) (a.map D.int)
 | []=>.nil
 |m::a=>.cons .int (rJ a)
end
def nY(i:Nat)(ρ:aB):Option (List ((List aP)×D)):=match ρ[i]? with
 |some (.ob (.dT kvs))=>p5 kvs
 |_=>Sr
theorem gE(h:nY i ρ=p5 kvs):ρ[i]? =p5 (.ob (.dT kvs)):=by
 unfold nY at h;grind
def bZ(kvs:List ((List aP)×D))(k:List aP):Option D:=(kvs.find? λa=>decide (a.1=k)).map (·.2)
def kf(kvs:List ((List aP)×D))(k:List aP)(d:D):List ((List aP)×D):=
 if(kvs.any λa=>decide (a.1=k))=S1 then kvs.map (λa=>if a.1=k then(a.1,d) else a) else kvs++[(k,d)]
def KRt(K:SA)(F:Hp)(us:List ((List aP)×V))(kvs:List ((List aP)×D)):Prop:=us.map (·.1)=kvs.map (·.1)/\Reps K F (us.map (·.2)) (kvs.map (·.2))
theorem KRt.inv {K:SA}: ∀ {us:List ((List aP)×V)} {kvs:List ((List aP)×D)},KRt K F us kvs->(us=[]/\kvs=[])\/ ∃k v b d a,us=(k,v)::b/\kvs=(k,d)::a/\Rep K F v d/\KRt K F b a
 | [],[],_=>.inl ⟨rfl,rfl⟩
 | [],_::_,h=>by cases h.1
 |_::_,[],h=>by cases h.1
 |(k,v)::us,(i,d)::kvs,h=>by
  obtain⟨f,e⟩:=h;rw[SD,SD] at f e;injection f with c g
  cases e with
  |cons r j=>
   have c:k=i:=c;subst c;exact .inr ⟨k,v,us,d,kvs,rfl,rfl,r,g,j⟩
theorem KRt.val {K:SA}(k:List aP): ∀ {us:List ((List aP)×V)} {kvs:List ((List aP)×D)},KRt K F us kvs->(cN us k=Sr/\bZ kvs k=Sr)\/ ∃v d,cN us k=p5 v/\bZ kvs k=p5 d/\Rep K F v d:=by
 intro us
 induction us with
 |nil=>
  intro kvs h;rcases h.inv with⟨_,rfl⟩|⟨_,_,_,_,_,e,_⟩
  ·exact .inl ⟨rfl,rfl⟩
  nofun
 |cons p us c=>
  intro kvs h;rcases h.inv with⟨e,_⟩|⟨g,v,b,d,a,e,rfl,r,f⟩
  ·nofun
  ·cases e;grind[bZ,cN]
theorem KRt.any {K:SA}(k:List aP){us:List ((List aP)×V)}{kvs:List ((List aP)×D)}(h:KRt K F us kvs):(us.any λa=>decide (a.1=k))=kvs.any λa=>decide (a.1=k):=by
 have b:(us.any λa=>decide (a.1=k))=(us.map (·.1)).any λx=>decide (x=k):=by rw[VL];rfl
 have c:(kvs.any λa=>decide (a.1=k))=(kvs.map (·.1)).any λx=>decide (x=k):=by rw[VL];rfl
 rw[b,c,h.1]
theorem KRt.cons {K:SA}{k:List aP}(r:Rep K F v d)(h:KRt K F us kvs):KRt K F ((k,v)::us) ((k,d)::kvs):=⟨by rw[SD,SD,h.1],.cons r h.2⟩
theorem KRt.repl {K:SA}(k:List aP)(r:Rep K F v d): ∀ {us:List ((List aP)×V)} {kvs:List ((List aP)×D)},KRt K F us kvs->KRt K F (us.map (λa=>if a.1=k then(a.1,v) else a)) (kvs.map (λa=>if a.1=k then(a.1,d) else a)):=by
 intro us
 induction us with
 |nil=>
  intro kvs h;rcases h.inv with⟨_,rfl⟩|⟨_,_,_,_,_,e,_⟩
  ·exact h
  nofun
 |cons p us f=>
  intro kvs h;rcases h.inv with⟨e,_⟩|⟨l,m,j,d',c,e,rfl,i,g⟩
  ·nofun
  ·cases e;rw[SD,SD]
   by_cases b:l=k
   ·rw[if_pos b,if_pos b];exact KRt.cons r (f g)
   ·rw[if_neg b,if_neg b];exact KRt.cons i (f g)
theorem KRt.put {K:SA}(k:List aP)(r:Rep K F v d)(h:KRt K F us kvs):KRt K F (fX us k v) (kf kvs k d):=by
 unfold fX kf;rw[h.any k];split
 ·exact h.repl k r
 ·refine⟨by rw[Tb,Tb,h.1];rfl,?_⟩;rw[Tb,Tb];exact h.2.append (.cons r .nil)
theorem KRt.len {K:SA}{us:List ((List aP)×V)}{kvs:List ((List aP)×D)}(h:KRt K F us kvs):us.length=kvs.length:=by
 have:=congrArg Ua h.1;simpa using this
section
variable {K:SA}{c:Ct}{ρ:aB}{σ:St}
theorem SR.dictT(h:SR K c hid ρ σ H)(e:nY i ρ=p5 kvs): ∃a us,σ[i]? =p5 (p5 (.ref a))/\hid a=S1/\c.H₀ a=Sr/\H a=p5 (.dT us)/\KRt K (vw H hid) us kvs:=by
 obtain⟨a,d,⟨b,f⟩,us,k,g,j⟩:=h.sl i _ (gE e);exact⟨a,us,d,b,f,k,g,j⟩
theorem SR.putDT(h:SR K c hid ρ σ H)(g:nY i ρ=p5 kvs)(d:σ[i]? =p5 (p5 (.ref a)))(r:KRt K (vw H hid) us' kvs'):SR K c hid (ρ.set i (.ob (.dT kvs'))) σ (aW H a (.dT us')):=by
 obtain⟨j,us,f,b,e,l,k⟩:=h.dictT g;rw[d] at f;cases f;exact h.putO (gE g) trivial trivial d (.inl rfl) b e nofun ⟨⟨b,e⟩,us',aA,r.1,by rw[bV b];exact r.2⟩
end
def nX:D->Option (List Int)
 | .tup ds=>cq ds
 |_=>Sr
theorem fA{ns:List Int}(h:nX d=p5 ns):d=.tup (ns.map D.int):=by
 unfold nX at h;grind[dv]
theorem pb {K:SA}: ∀ {xs:List V} {ns:List Int},Reps K F xs (ns.map D.int)->xs=(ns.map Wv).map kV
 |_,[],h=>by cases h;rfl
 |_,n::ns,h=>by
  cases h with
  |cons r a=>cases r;rw[pb a];rfl
section
variable {X:Cx}{s:Sx}{A:Tr}
theorem HG {ks:List aP}(I:Inv X aa σ H s)(h:SqT X.K H b (ks.map kV)):(W6 (bR X.prog X.w)).is s.heap ks b:=by
 obtain⟨a,r,⟨o,d,c,n,e⟩,_⟩:=I.tuple h;exact⟨o,a.toArray,n,d,c,e,by simpa using ma r⟩
theorem NJ{k:List aP}(n:A.units+1<Tq)(I:Inv X aa σ H s)(e:H a=p5 (.dT kvs))(i:SqT X.K H b (k.map kV))(l:cN kvs k=p5 v)
 (h: ∀c s',Inv X aa σ H s'->b6 v c->Q c s'):SL (model X.prog X.w) A (jae (.ref a) (.ref b)) Q E s:=by
 obtain⟨z,q,xs,d,m⟩:=wl I.hok e;obtain⟨c,hw,f⟩:=oa.some_of (v:=v) (o:=(Z7 xs k).map (·.2)) (by rw[<-l];exact d.val k);obtain⟨p,j,g⟩:=S0.mp hw;refine jaB (Uc n) (HG I i) m j ?_
 rw[g];exact h c _ (I.tok _) f
theorem Pj{k:List aP}(i:A.units+1<Tq)(I:Inv X aa σ H s)(e:H a=p5 (.dT kvs))(d:SqT X.K H b (k.map kV))
 (h: ∀s',Inv X aa σ H s'->Q (.bool (cN kvs k).isSome) s'):SL (model X.prog X.w) A (U0 .In (.ref b) (.ref a)) Q E s:=by
 obtain⟨z,f,xs,c,g⟩:=wl I.hok e;refine wpAny_in_heap (Uc i) (HG I d) f g ?_
 have q:=(c.val k).isSome_eq;rw[WA] at q;rw[<-q];exact h _ (I.tok _)
end
section
variable {X:Cx}{ty:TE}
def Qw(K:SA)(d ty:TE):TE:=λσ H Q=>d σ H λx e=>ty σ e λy c=> ∃a b kvs k v,x=.ref a/\y=.ref b/\c a=p5 (.dT kvs)/\SqT K c b (k.map kV)/\cN kvs k=p5 v/\Q v c
def Q9(K:SA)(ty d:TE):TE:=λσ H Q=>ty σ H λy e=>d σ e λx c=> ∃a b kvs k,x=.ref a/\y=.ref b/\c a=p5 (.dT kvs)/\SqT K c b (k.map kV)/\Q (.bl (cN kvs k).isSome) c
theorem L9(J:X.A.units+1<Tq)(G:PE X o td)(q:PE X i ty)(p:Dl i):PE X (.Subscript o i pos) (Qw X.K td ty):=by
 intro f s σ H Q I h;refine BT YC.lookup p (bB (G f s σ H _ I h) λu l ⟨x,j,B,E,D⟩=>bB (q f l σ j _ B D) λn P d=>?_);obtain⟨y,t,e,F,a,b,kvs,k,v,L,m,g,C,w,r⟩:=d;subst L m;obtain rfl:u=Tc a:=E;obtain rfl:n=Tc b:=F;refine⟨?_,NJ J e g C w λO N z c=>⟨v,t,z,c,r⟩⟩;obtain⟨_,_,xs,_,M⟩:=wl e.hok g;exact M.typeIs
theorem Me(D:X.A.units+1<Tq)(m:PE X i ty)(C:PE X o td):PC X .In i o (Q9 X.K ty td):=by
 intro d s σ H Q I h;refine bB (m d s σ H _ I h) λl g ⟨y,f,r,B,w⟩=>bB (C d g σ f _ r w) λu G c=>?_
 obtain⟨x,p,e,z,a,b,kvs,k,E,j,t,v,n⟩:=c;subst E j;obtain rfl:u=Tc a:=z;obtain rfl:l=Tc b:=B;exact Pj D e t v λF q=>⟨.bl (cN kvs k).isSome,p,q,rfl,n⟩
end
section
variable {X:Cx}{k:Kd}{fk:FE}{pos:Pos}
def iK(ns:List Int):List aP:=ns.map Wv
def F1(i:Nat):FS:=λρ=>.nx (ρ.set i (.ob (.dT [])))
theorem iJ(i:Nat)(l:X.N.Nodup)(m:X.N[i]? =p5 x:=by rfl)(r:CO X.env.scope x:=by first|exact TL rfl|exact Te rfl)(j:Uw (.Dict [] [] p) (some (.Name x pos')) pos.line X.env=pure false:=by rfl)
 (n:X.fn x=S1\/X.env.scope.names.lookup x=p5 .local:=by first|exact .inl rfl|exact .inr rfl|assumption):DS X c k (.Assign [.Name x pos'] (.Dict [] [] p) pos) (F1 i):=λρ=>PS.imp (j0 l m r HA j n) λD σ H f=>by
 obtain⟨hid,e,q⟩:=f;intro a d;have g:=aJ d (.dT []);have t:=e.fresh d;refine q _ _ (bA hid a) (SR.setD (a:=a) (b:=.dT []) (e.hide g d aA) ⟨⟨cm,e.fresh0 d⟩,[],aA,rfl,.nil⟩ (e.notOw t) i) λb o w=>?_
 obtain⟨s,h⟩:=cW.mp w;refine cW.mpr ⟨?_,g b o h⟩;unfold bA;rw[s];have:b≠a:=bF h d;simp[this]
def zE(i:Nat)(fk:FE):FE:=λρ=>(nY i ρ).bind λkvs=>((fk ρ).bind nX).bind λk=>bZ kvs (iK k)
theorem qC{ns:List Int}(h:eb X.K H' (vw H' hid) z (.tup (ns.map D.int))): ∃b,z=.ref b/\SqT X.K H' b ((iK ns).map kV):=by
 obtain⟨b,xs,rfl,_,a,c⟩:=h.tup;refine⟨b,rfl,?_⟩;rw[<-show xs=(iK ns).map kV from pb c];exact a
theorem Be(i:Nat)(P:X.A.units+1<Tq)(R:DP X c k1 e fe)(J:Dl e)(D:X.N[i]? =p5 y:=by rfl)(l:lW X.env.scope y:=by first|exact TL rfl|exact Te (TL rfl)|exact Te (Te rfl))(f:(y==("__debug__":Str))=false:=by decide)
 (k:(y==("__classdict__":Str))=false:=by decide):DP X c .s (.Subscript (.Name y py) e pos) (zE i fe):=λhid ρ=>
 PE.imp (L9 P (pv i D l f k) (R hid ρ) J) λσ H Q m=>by
  obtain⟨h,d,f,q⟩:=m;obtain⟨kvs,L,f⟩:=Sz.mp f;obtain⟨p,w,f⟩:=Sz.mp f;obtain⟨T,O,E⟩:=Sz.mp w;have B:=fA E;subst B;obtain⟨a,us,x,U,S,G,t⟩:=h.dictT L;refine⟨.ref a,x,h,_,O,λz g j F=>?_⟩;obtain⟨b,rfl,u⟩:=qC (RK.b k1 F λa n=>h.fresh n);have M:g a=p5 (.dT us):=j _ _ G;have C:KRt X.K (vw g hid) us kvs:=⟨t.1,t.2.mono (aC j)⟩
  rcases C.val (iK p) with⟨o,r⟩|⟨v,d',o,r,I⟩
  ·nofun
  ·rw[r] at f;cases f;exact⟨a,b,us,iK p,v,rfl,rfl,M,u,o,q _ g j I⟩
def Mm(i:Nat)(fk:FE):FT:=λρ=>(nY i ρ).bind λkvs=>((fk ρ).bind nX).map λk=>(bZ kvs (iK k)).isSome
theorem J2(i:Nat)(M:X.A.units+1<Tq)(O:DP X c k1 e fe)(B:X.N[i]? =p5 y:=by rfl)(j:lW X.env.scope y:=by first|exact TL rfl|exact Te (TL rfl)|exact Te (Te rfl))(f:(y==("__debug__":Str))=false:=by decide)
 (h:(y==("__classdict__":Str))=false:=by decide) (L:UV .In (.Name y py)=false:=by rfl):DT X c (.Compare e [.In] [.Name y py] pos) (Mm i fe):=λhid ρ=>
 PT.imp (vx (Me M (O hid ρ) (pv i B j f h)) L) λσ H Q k=>by
  obtain⟨g,d,f,q⟩:=k;obtain⟨kvs,F,f⟩:=Sz.mp f;obtain⟨m,s,rfl⟩:=S0.mp f;obtain⟨R,J,C⟩:=Sz.mp s;have u:=fA C;subst u;obtain⟨a,us,t,T,P,E,o⟩:=g.dictT F;refine⟨g,_,J,λz l p D=>⟨.ref a,t,?_⟩⟩;obtain⟨b,rfl,r⟩:=qC (RK.b k1 D λa n=>g.fresh n);have G:l a=p5 (.dT us):=p _ _ E;have x:KRt X.K (vw l hid) us kvs:=⟨o.1,o.2.mono (aC p)⟩
  refine⟨a,b,us,iK m,rfl,rfl,G,r,_,rfl,?_⟩;rcases x.val (iK m) with⟨w,I⟩|⟨v,d',w,I,S⟩
  ·nofun
  nofun
end
def jm(h:Heap)(d:Addr)(es:Array jbD)(ep:Nat):Prop:= ∃o,h.get? d=p5 o/\o.ExactDict/\o.data=.dict es ep
section
variable {A:Tr}{s:Sx}{es:Array jbD}{i:Nat}
theorem jm.ty(h:jm s.heap d es ep):s.TypeIs (.ref d) "dict":=let⟨o,h1,h2,_⟩:=h;⟨o,h1,h2.1⟩
theorem jm.lt {h:Heap}(x:jm h d es ep):d<h.objs.size:=let⟨_,h1,_⟩:=x;SH h1
theorem jm.to {h h':Heap}(x:jm h d es ep)(k: ∀o,h.get? d=p5 o->h'.get? d=p5 o):jm h' d es ep:=let⟨o,h1,r⟩:=x;⟨o,k o h1,r⟩
theorem xb(c:(d==UP)=Pa)(x:jm s.heap d es ep)
 (q:Q (.ref s.heap.objs.size) {s with heap:=s.heap.push {cls:=.type "dict_keyiterator",data:=.fields #[.ref d,.int 0 0,.int es.size 0,.int ep 0]}}):SL (model prog w) A (YS (.ref d)) Q E s:=by
 have ty:=x.ty;obtain⟨o,b,e,a⟩:=x;refine YM ty jbL (TU jbL ty F.entry_dict_iter ?_ (F.args_dict_iter_1 _));unfold Vc.«dict.__iter__»;refine Ss ?_
 unfold jdB;refine Ss (ZQ ty ?_);show SL _ _ (pure (Tc d)) _ _ s;refine Sv ?_
 show SL _ _ (ZR d>>=_) _ _ s;unfold ZR;rw[if_neg ⋯];refine Ss (Sv (Ss (Xm b a (Ss (ZD b a ?_)))));refine Ss (T6 (Sv ⟨_,rfl,"dict_keyiterator",_,⟨_,SC _ rfl,rfl⟩,UL.lookup,?_⟩));grind[Wb]
theorem v9 {Q:Option Sw->Sx->Prop}(hit:s.heap.IsKeyIter it d i es.size ep)(x:jm s.heap d es ep)(hi:i<es.size)
 (q: ∀h',h'.IsKeyIter it d (i+1) es.size ep->Tw it s.heap h'->Q (p5 es[i].key) {s with heap:=h'}):SL (model prog w) A (Wa (.ref it)) Q E s:=by
 obtain⟨o,k1,k2,k3⟩:=id hit;obtain⟨od,g1,g2,g3⟩:=id x;unfold Wa;refine Ss (WW (Uf (name:=VM "__next__") hit.typeIs UL (TU UL hit.typeIs XR ?_ (XE _))));refine Ss (Sv (Ss (Ss ?_)))
 first|refine Ss (Ve hit.typeIs (Sv (Ss (WD k1 k3 ?_))))|refine Ss (VS hit.typeIs (Sv (Ss (WD k1 k3 ?_))))
 simp -iota only[show X3 "dict_keyiterator"=Pa by rfl,SW,if_false];show SL _ _ (if(Tc d==Tn)=S1 then _ else _) _ _ s;rw[if_neg (show¬((Tc d==Tn)=S1) from V9)];refine Ss (Sv (Ss (Xm g1 g3 ?_)));rw[if_neg (by simp)];refine Ss (Sv (Ss (ZD g1 g3 ?_)));rw[if_neg (by simp)];refine Sv ?_
 dsimp only;rw[if_neg (show¬((i:Int)<0) from by simp),Vg,Tl hi];dsimp only;refine Ss ?_
 first|refine Ss (Ve hit.typeIs (Sv (Ss (Xv hit.typeIs ?_))))|refine Ss (VS hit.typeIs (Sv (Ss (Xv hit.typeIs ?_))))
 show SL _ _ (jdl (.ref it) 1 (Wb ((i:Int)+1))>>=_) _ _ s;refine Ss (V0 k1 k3 (by simp) ?_);have nx:(s.heap.update it (VT (·.setIfInBounds 1 (Wb ((i:Int)+1))))).IsKeyIter it d (i+1) es.size ep:=⟨_,Ts _ k1 (U6 (UR k3 _)),(Xi ..).trans k2,by grind[UR,Wb]⟩
 refine Ss (TM (Ss (Xv (s:={s with heap:=s.heap.update it (VT (·.setIfInBounds 1 (Wb ((i:Int)+1))))}) nx.typeIs ?_)));show SL _ _ (pure es[i].key) _ _ _;exact Sv (Sv ⟨_,rfl,Sv (q _ nx (Tx ..))⟩)
theorem BU {Q:Option Sw->Sx->Prop}(calm:A.handled=Sr)(hit:s.heap.IsKeyIter it d es.size es.size ep)(x:jm s.heap d es ep)
 (q: ∀h',YK it s.heap h'->Q Sr {s with heap:=h'}):SL (model prog w) A (Wa (.ref it)) Q E s:=by
 obtain⟨o,k1,k2,k3⟩:=id hit;obtain⟨od,g1,g2,g3⟩:=id x;unfold Wa;refine Ss (WW (Uf (name:=VM "__next__") hit.typeIs UL (TU UL hit.typeIs XR ?_ (XE _))));refine Ss (Sv (Ss (Ss ?_)))
 first|refine Ss (Ve hit.typeIs (Sv (Ss (WD k1 k3 ?_))))|refine Ss (VS hit.typeIs (Sv (Ss (WD k1 k3 ?_))))
 simp -iota only[show X3 "dict_keyiterator"=Pa by rfl,SW,if_false];show SL _ _ (if(Tc d==Tn)=S1 then _ else _) _ _ s;rw[if_neg (show¬((Tc d==Tn)=S1) from V9)];refine Ss (Sv (Ss (Xm g1 g3 ?_)));rw[if_neg (by simp)];refine Ss (Sv (Ss (ZD g1 g3 ?_)));rw[if_neg (by simp)];refine Sv ?_
 dsimp only;rw[if_neg (show¬((es.size:Int)<0) from by simp),Vg,Xn (SB es.size)];dsimp only;refine Ss ?_
 first|refine Ss (Ve hit.typeIs (Sv ?_))|refine Ss (VS hit.typeIs (Sv ?_))
 show SL _ _ (jdl (.ref it) 0 .none>>=_) _ _ s;refine Ss (V0 k1 k3 (by simp) ?_);show SL _ _ (jdj (.type "StopIteration") []>>=_) _ _ _;refine Ss ?_
 simp -iota only[jdj,jdk];refine Ss (T6 (Ss (m:=Z1 _ _) (YJ (a:=Tn) (by rfl) (T6 ?_ (by size_fits)))) (by size_fits));simp -iota only[raiseNew];refine Ss (jar ?_);rw[show A.in1.handled=Sr from calm];refine Ss (Sv (jcd ?_));refine Ss (V1 (T:="StopIteration") (b:=S1) ⟨_,SC _ rfl,rfl⟩ Z2 ?_);exact Sv (q _ (((Tx ..).extBut.push _).push _))
theorem CY(c:A.handled=Sr)(I:Addr)(n:d≠I):Walks prog w A I [I,d] [I] es.size (λi v=> ∃e,es[i]? =p5 e/\v=e.key) (λi h=>h.IsKeyIter I d i es.size ep/\jm h d es ep) where
 sub:=λb f=>by nofun
 frame:=λ_ _ _ st m=>⟨st.1.at λo e=>m I (by simp) o e,st.2.to λo e=>m d (by simp) o e⟩
 item:=λi s Q E k st a=>v9 st.1 st.2 k λh' g l=>a _ h' s.toks ⟨_,Tl k,rfl⟩ ⟨g,st.2.to λo e=>l.extBut d o n e⟩ λb o f e=>l.extBut b o (λh=>f (by simp[h])) e
 done:=λs Q E st a=>BU c st.1 st.2 λh' j=>a h' s.toks λb o f e=>j b o (λh=>f (by simp[h])) e
 self:=λ_ _ _ _ st a=>Z8 st.1 a
theorem Ko(f:(d==UP)=Pa):KdlSrc prog w "dict" d d es.size (λi v=> ∃e,es[i]? =p5 e/\v=e.key) (λh=>jm h d es ep) where
 type:=λ_ h=>h.ty
 there:=λ_ h=>⟨h.lt,h.lt⟩
 keep:=λ_ _ h c=>h.to λo e=>c d (.inl rfl) o e
 notList:=by rfl
 notTuple:=by rfl
 hint:=λ_ _ _ _ h a=>kdl_hint_dict h.ty a
 iter:=λ_ _ b h=>⟨_,_,λ_ _ a=>xb f h a,CY b _ (S7 h.lt),⟨_,SC _ rfl,rfl,rfl⟩,h.to λo e=>Sy _ e⟩
theorem pZ{us:List Sw}{G:List Nat->Prop}(F:KdlSrc prog w T r d us.length P OK)(M: ∀i v,i<us.length->P i v->us[i]? =p5 v)(n:A.handled=Sr)(q:OK s.heap)(hz:us.length<64)
 (z:us.length<2->G (Su us.length))
 (l:2<=us.length-> ∀(g:Heap) (tk:Nat),(∀c o,s.heap.get? c=p5 o->g.get? c=p5 o)->SL (model prog w) A.in1.in1 (keyKind' us.toArray) (λκ t=>t={s with heap:=g,toks:=tk}/\
   (jbh us.length).kasWp (jaf prog w A.in1.in1 κ us) (λp t'=>t'=t/\G p.toList) t) (λ_ _=>False) {s with heap:=g,toks:=tk})
 (fin: ∀(g:Heap) (tk a e:Nat) (j:List Nat),(∀c o,s.heap.get? c=p5 o->g.get? c=p5 o)->s.heap.objs.size<=a->G j->g.get? a=p5 (Wq "list" (UJ (j.map λi=>us.getD i Tn)) e)->Q (.ref a) {s with heap:=g,toks:=tk}):
 SL (model prog w) A (call (.builtin "sorted") [.ref r]) Q E s:=by
 refine YB kind_sorted plain_sorted entry_sorted (args_sorted1 _) ?_
 unfold Vc.«sorted»;refine Ss (m:=checkCount "sorted" 1 1 _) (Sv (Ss (zU (A:=A.in1) F n q (by rw[T8];lia) λg tk acc J I b=>?_)));have D:acc.toList=us:=Wz λi=>by
  by_cases B:i<us.length
  ·have K:i<acc.size:=by rw[b.1];exact B
   have L:acc[i]? =p5 acc[i]:=Tl K;rw[Tk,L,M i _ B (b.2 i _ L)]
  ·have K: ¬i<acc.toList.length:=by rw[S8,b.1];exact B
   grind
 rw[D];have R:s.heap.objs.size<=g.objs.size:=Va I;refine Ss (jaq ?_ (by rw[T8];lia));have C:(g.push (Wq "list" us.toArray 0)).get? g.objs.size=p5 (Wq "list" us.toArray 0):=SC _ rfl;show SL _ _ _ _ _ {s with heap:=g.push (Wq "list" us.toArray 0),toks:=tk};have k: ∀j:List Nat,G j->Q (.ref g.objs.size) {s with heap:=XC (g.push (Wq "list" us.toArray 0)) g.objs.size us (UJ (j.map λi=>us.getD i Tn)),toks:=tk}:=λj O=>by
  obtain⟨e,S⟩:=sortedHeap_at (out:=UJ (j.map λi=>us.getD i Tn)) C;refine fin _ tk g.objs.size e j (λc u y=>?_) R O S;have lt:=SH (J c u y);grind[sortedHeap_old,size_push',Sy]
 refine Ss (TM (TU slot_list_sort ⟨_,C,rfl⟩ entry_list_sort (pG (P:=λf t=> ∃v,f=.done (.ret v)/\SL (model prog w) A.in1 (pure (jdf (.ret (Tc g.objs.size)))) (λf t=> ∃v,f=.done (.ret v)/\Q v t) E t) C (by omega) (λh=>?_) (λh g' H=>?_)) (args_list_sort _)))
 ·have e:=k (Su us.length) (z h)
  rw[show(Su us.length).map (λi=>us.getD i Tn)=us from Wz λi=>by
   grind] at e
  grind[Sv]
 ·refine Tv (l h g' tk λc u y=>H c u (S7 (SH (J c u y))) (Sy _ (J c u y))) (λκ t ⟨N,U⟩=>⟨N,?_⟩) λ_ _ x=>x
  grind[kat_ask_eq,kas_wp_mono,Sv]
end
abbrev MZ(H:Hp):List V->List (List Int)->Prop:=Paired λy ks=> ∃b,y=.ref b/\H b=p5 (.tup (ks.map V.int))
theorem zp: ∀ {us:List (List aP×V)} {xs:List (List aP×Addr×Sw)} {a:List (List Int)},KTd H us xs->us.map (·.1)=a.map iK->MZ H (xs.map λx=>V.ref x.2.1) a
 |_,_,[],r,e=>by
  cases r with
  |nil=>exact .nil
  |cons _ _=>cases e
 |_,_,ks::a,r,e=>by
  cases r with
  |nil=>cases e
  | @cons p q f d h t=>
    rw[SD,SD] at e;injection e with c b
    refine .cons ⟨q.2.1,rfl,?_⟩ (zp t b);rw[h.2.1,c];unfold iK;rw[S4];rfl
theorem uH: ∀ {ys:List V} {a:List (List Int)} {i:Nat},MZ H ys a->i<a.length-> ∃b,ys.getD i .non=.ref b/\H b=p5 (.tup ((a.getD i []).map V.int))
 |_,_,_,.nil,e=>by simp at e
 |_,_,0,.cons h _,e=>by nofun
 |_,_,i+1,.cons _ r,e=>by
  obtain⟨b,d,c⟩:=uH (i:=i) r (by nofun);grind
theorem xp{ys:List V}{a:List (List Int)}(r:MZ H ys a): ∀b:List Nat,(∀i∈b,i<a.length)->MZ H (b.map λi=>ys.getD i .non) (b.map λi=>a.getD i [])
 | [],_=>.nil
 |i::l,h=>.cons (uH r (h i SM)) (xp r l λj c=>h j (SI _ c))
theorem A3{ys:List V}{a:List (List Int)}(r:MZ H ys a):ys.length=a.length:=UF r
theorem tO: ∀xs:List (List aP×Addr×Sw),cc (xs.map λx=>V.ref x.2.1) (xs.map λx=>Tc x.2.1)
 | []=>.nil
 |_::xs=>.cons rfl (tO xs)
theorem Ft: ∀ {ns:List Int} {us:List Sw},cc (ns.map V.int) us->o7 us ns
 | [],_,h=>by cases h;exact .nil
 |_::_,_,h=>by cases h with|cons b a=>exact .cons b (Ft a)
section
variable {X:Cx}
theorem kq(hc:X.calm=S1):cO X (.builtin "sorted") (λxs H Q=> ∃a us d,xs=[.ref a]/\Rd H a (.dT us)/\us.map (·.1)=d.map iK/\d.length<64/\(∀k∈d,k≠[])/\
 ∀l ys,H l=Sr->MZ H ys (aU aS d)->Q (.ref l) (aW H l (.lst ys))):=by
 intro aa s σ H xs vs Q I r h;obtain⟨a,us,d,rfl,ha,U,hz,O,q⟩:=h;obtain⟨u,rfl,rx⟩:=eQ r;cases rx;obtain⟨z,lo,xs,W,o,es,ep,d1,d2,d3,d4,d5,d6⟩:=nA I.hok ha;have Z:=zp W U;have lx:xs.length=d.length:=by
  have:=A3 Z;nofun
 obtain⟨f,J⟩: ∃f,f=xs.map λx=>Tc x.2.1:=⟨_,rfl⟩
 have N:f.length=d.length:=by nofun
 have rv:cc (xs.map λx=>V.ref x.2.1) f:=by grind[tO]
 have sz:es.size=f.length:=by grind[SO]
 have Y:jm s.heap a es ep:=⟨o,d1,d2,d3⟩
 have gi: ∀i,i<d.length-> ∃(b:Addr) (o:Obj) (B:List Sw) (n:Nat),f.getD i Tn=.ref b/\s.heap.get? b=p5 o/\o.cls=.type "tuple"/\o.data=.seq B.toArray n/\o7 B (d.getD i []):=λi A=>by
  obtain⟨b,M,L⟩:=uH Z A;have r1:=i7 rv i;rw[M] at r1;obtain⟨B,r',⟨o,ho,hc,n,hd⟩,_⟩:=I.tuple (.inl (.inl L));grind[Ft]
 have kt: ∀(g:Heap),(∀c o,s.heap.get? c=p5 o->g.get? c=p5 o)-> ∀(l:List Sw) (y:List (List Int)),l.length=y.length->(∀i,i<y.length-> ∃(b:Addr) (o:Obj) (B:List Sw) (n:Nat),l.getD i Tn=.ref b/\s.heap.get? b=p5 o/\o.cls=.type "tuple"/\o.data=.seq B.toArray n/\o7 B (y.getD i []))->(∀k∈y,k≠[])->
  ∃F,KatTups g l F/\F.length=l.length/\ ∀v∈F,∃i t,v=W7 i t:=by
  intro g D l
  induction l with
  |nil=>intro y _ _ _;exact⟨[],.nil,rfl,λ_ h=>nomatch h⟩
  |cons v l ih=>
   intro y hl K U;cases y with
   |nil=>cases hl
   |cons m y=>
    obtain⟨F,f1,f2,f3⟩:=ih y (by nofun) (λi A=>by simpa using K (i+1) (by nofun)) λk hk'=>U k (by simp[hk'])
    obtain⟨b,o,B,n,g1,g2,g3,g4,g5⟩:=K 0 (by simp);simp[VW] at g1 g5;subst g1;cases m with
    |nil=>nofun
    |cons x xs=>
     cases g5 with
     |cons y1 y2=>
      obtain⟨t,rfl⟩:=y1;refine⟨_,jbl (D _ _ g2) g3 g4 (by simp;rfl) f1,by simp[f2],λv hv=>?_⟩;grind
 refine pZ (us:=f) (G:=λE=>(∀i∈E,i<d.length)/\E.map (λi=>d.getD i [])=aU aS d) (sz▸Ko (es:=es) (ep:=ep) lo) (λi v A hv=>?_) (I.ok.hd hc) Y (by nofun) (λfew=>⟨λi A=>?_,?_⟩) (λL g tk D=>?_) (λg tk p e E D hp hG K=>?_)
 ·obtain⟨e,M,rfl⟩:=hv;rw[<-Tk,d4,Uh] at M;obtain⟨x,L,rfl⟩:=S0.mp M;rw[J,Uh,L];rfl
 ·nofun
 ·rw[N,hX,fz ⋯]
 ·obtain⟨F,f1,f2,f3⟩:=kt g D f d N gi O;refine kat_kind (T:=.type "int") f1 ⋯ (λv hv=>?_) (by rfl) ⟨rfl,?_⟩
  ·obtain⟨i,t,rfl⟩:=f3 v hv;exact jbH
  ·rw[N];refine oy (b:=λi j=>aS (d.getD i []) (d.getD j [])) (AI n6 _) (by grind) (λi j C A hj hC=>?_) λp P S=>⟨rfl,?_,?_⟩
   ·obtain⟨b1,o1,ts1,n1,x1,x2,x3,x4,x5⟩:=gi i A;obtain⟨b2,o2,ts2,n2,y1,y2,y3,y4,y5⟩:=gi j hj;unfold jaf;rw[x1,y1];refine kat_lt (D _ _ x2) x4 (D _ _ y2) y4 ?_
    refine vM 0 x5 y5 ?_ hC;have z1:=UF x5;have z2:=UF y5;simp[z1,z2]
   ·intro i A;have:=P.perm.mem_iff.mp (VG.mp A);nofun
   ·exact gd n6 P S
 ·have R:=xp Z E hG.1;rw[hG.2] at R;have ll:(aU aS d).length=d.length:=(a8 (lt:=aS) d).length_eq;refine⟨.ref p,_,I.laid (t':=tk) D hp (show ci X.prog X.w _ g _ (.lst (E.map λi=>(xs.map λx=>V.ref x.2.1).getD i .non)) from⟨?_,_,e,je rv E,K⟩),rfl,q _ _ (I.hok.fresh hp) R⟩;rw[A3 R,ll,T8];lia
def hW:List (List aP×D)->Option (List (List Int))
 | []=>p5 []
 |(k,_)::r=>(intK k).bind λns=>(hW r).map (ns:: ·)
where intK:List aP->Option (List Int)
 | []=>p5 []
 | .inl i::r=>(intK r).map (i:: ·)
 |_=>Sr
theorem AD: ∀ {k:List aP} {ns:List Int},hW.intK k=p5 ns->k=iK ns
 | [],_,h=>by cases h;rfl
 | .inl i::r,ns,h=>by
   have h:(hW.intK r).map (i:: ·)=p5 ns:=h;obtain⟨t,e,rfl⟩:=S0.mp h;rw[AD e];rfl
 | .inr _::_,_,h=>by cases h
theorem lN: ∀ {kvs:List (List aP×D)} {a:List (List Int)},hW kvs=p5 a->kvs.map (·.1)=a.map iK
 | [],_,h=>by cases h;rfl
 |(k,d)::r,a,h=>by
  have h:((hW.intK k).bind λns=>(hW r).map (ns:: ·))=p5 a:=h;obtain⟨ns,b,h⟩:=Sz.mp h;obtain⟨t,e,rfl⟩:=S0.mp h;rw[SD,SD,lN e,<-AD b]
theorem kB {K:SA}(c: ∀b xs,hid b=S1->H b≠p5 (.tup xs)): ∀ {ys:List V} {a:List (List Int)},MZ H ys a->Reps K (vw H hid) ys (a.map a7)
 |_,[],h=>by cases h;exact .nil
 |_,ks::a,h=>by
  cases h with
  |cons f d=>
   obtain⟨b,rfl,e⟩:=f;refine .cons (.tup (cW.mpr ⟨?_,e⟩) (rJ ks)) (kB c d);grind
def GF(i:Nat):FE:=λρ=>(nY i ρ).bind λkvs=>(hW kvs).bind λa=>if a.length<64/\ ∀k∈a,k≠[] then p5 (.lst ((aU aS a).map a7)) else Sr
theorem GK{e p j:Pos}(i:Nat)(h:X.calm=S1)(D:X.mg "sorted"=Sr)(x:X.N[i]? =p5 y:=by rfl)(m:lW X.env.scope y:=by first|exact TL rfl|exact Te (TL rfl)|exact Te (Te rfl))(b:(y==("__debug__":Str))=false:=by decide)
 (k:(y==("__classdict__":Str))=false:=by decide) (w:Gl X "sorted":=by rfl) (hv:T3 "sorted"=p5 (.builtin "sorted"):=by kernel_rfl)
 (t:SF [.Name y j] X.env=(Pa,eval (.Name y j) X.env)::SF [] X.env:=by rfl) (f:(Ul e (SF [] X.env)).any (·.1)=false:=by rfl):DP X c .n (.Call (.Name "sorted" p) [.Name y j] [] e) (GF i):=λhid ρ=>
 PE.imp (fS (kq h) w D hv (bn (pv i x m b k) bW t) () (by rfl) t f) λσ H Q o=>by
  obtain⟨r,d,b,q⟩:=o;obtain⟨kvs,B,b⟩:=Sz.mp b;obtain⟨g,u,b⟩:=Sz.mp b;split at b
  ·rename_i hz
   cases b;obtain⟨a,us,v,F,E,z,C⟩:=r.dictT B;refine⟨.ref a,v,a,us,g,rfl,.inl z,by rw[C.1];exact lN u,hz.1,hz.2,λl ys s A=>q _ _ (aJ s _) (fH s (ab.refl _) (kB r.ht A))⟩
  nofun
end
abbrev lX:=List (List aP×D)
theorem AQ {α:Type}(next:Nat->Nat): ∀(fuel k:Nat) (left:List α) (out:Array α),fuel=left.length->(jfo next fuel k left out).toList.Perm (out.toList++left)
 |0,k,left,out,h=>by
  obtain rfl:left=[]:=List.eq_nil_of_length_eq_zero h.symm;rw[Uv];rfl
 |fuel+1,k,left,out,h=>by
  have lt:next k % left.length<left.length:=UM _ (by grind)
  have e:left[next k % left.length]? =p5 left[next k % left.length]:=SJ lt;unfold jfo;rw[e];dsimp only;refine(AQ next fuel (k+1) _ _ (by rw[Vd,if_pos lt];lia)).trans ?_
  rw[Array.toList_push,Wt];refine List.Perm.append_left _ ?_
  have a:left=left.take (next k % left.length)++left[next k % left.length]::left.drop (next k % left.length+1):=by
   simp
  rw[Xr]
  conv=>rhs;rw[a]
  exact(Y3 (l₁:=left.take (next k % left.length))).symm
theorem yU {α:Type}(next:Nat->Nat)(xs:Array α):(pickOrder next xs).toList.Perm xs.toList:=by
 have:=AQ next xs.size 0 xs.toList #[] (by rfl)
 unfold pickOrder;simpa using this
theorem Ek(r:Ris xs)(b:Bel xs j p):Td xs j=p:=by
 have b':=PH r j;rcases VF (Td xs j) p with c|c|c
 ·have lt:Td xs j<xs.size:=by have:=b.le;lia
  have e:xs[Td xs j]? =p5 xs[Td xs j]:=Tl lt;have d:=b.lo _ _ c e;have a:=b'.hi _ _ (SB _) e;lia
 ·exact c
 ·have lt:p<xs.size:=by have:=b'.le;lia
  have e:xs[p]? =p5 xs[p]:=Tl lt;have d:=b'.lo _ _ c e;have a:=b.hi _ _ (SB _) e;lia
theorem D9 {xs:Array Nat}(r:Ris xs)(g:i<=xs.size):Td xs (if i=0 then 0 else xs.getD (i-1) 0+1)=i:=by
 refine Ek r ⟨g,λx a f b=>?_,λx a f b=>?_⟩
 ·rw[if_neg (by grind)];have lt:i-1<xs.size:=by grind
  have e:xs[i-1]? =p5 xs[i-1]:=Tl lt;have d:xs.getD (i-1) 0=xs[i-1]:=by nofun
  rw[d]
  by_cases c:x=i-1
  ·nofun
  ·have:=r.lt (show x<i-1 by lia) b e;lia
 ·by_cases c:i=0
  ·rw[if_pos c];simp
  ·rw[if_neg c];have lt:i-1<xs.size:=by omega
   have e:xs[i-1]? =p5 xs[i-1]:=Tl lt;have d:xs.getD (i-1) 0=xs[i-1]:=by nofun
   rw[d];exact r.lt (show i-1<x by omega) e b
def gc(w:Tu):Bool:=w.params.followText "set-order"
def gD(w:Tu)(a:Addr)(ep:Nat)(es:Array (Int×Sw)):Array (Int×Sw):=if gc w=S1 then pickOrder (w.params.setOrder a ep) es else es
theorem l5(w:Tu)(a:Addr)(ep:Nat)(es:Array (Int×Sw)):(gD w a ep es).toList.Perm es.toList:=by
 unfold gD;split
 ·exact yU _ _
 rfl
theorem jc(w:Tu)(a:Addr)(ep:Nat)(es:Array (Int×Sw)):(gD w a ep es).size=es.size:=by
 have:=(l5 w a ep es).length_eq;omega
def v8(w:Tu)(t:T4)(i:Nat):Nat:=if gc w=S1 then 0 else if i=0 then 0 else t.place.getD (i-1) 0+1
def gb(w:Tu)(h:Heap)(d:Addr)(es:Array (Int×Sw))(ep:Nat)(t:T4):Prop:= ∃o xs,h.get? d=p5 o/\SetAt w o es ep t xs
def dr(w:Tu)(t:T4)(h:Heap)(it d:Addr)(i n ep:Nat):Prop:= ∃o,h.get? it=p5 o/\o.cls=.type "set_iterator"/\o.data=.fields #[.int (v8 w t i) 0,.int i 0,.ref d,.int n 0,.int ep 0]
theorem ei:Slot "set_iterator" "__next__" "set_iterator.__next__":=.of (owner:="set_iterator") (n:="__next__") (by rfl) (by rfl) (by rfl) (by rfl) (by first|exact .inl (by rfl)|exact .inr (by decide+kernel)) (by rfl)
theorem jw:jdn table "set_iterator.__next__"=p5 Vc.«set_iterator.__next__»:=entryFor_of_tree (by rfl)
theorem Et:Manifest.owners.lookup (String.ofList ['r','o','t','a','r','e','t','i','_','t','e','s'].reverse)=p5 Manifest.sig_set_iterator:=by rfl
theorem kY(a:Sw):argsOk "set_iterator.__next__" ⟨[a],[]⟩:=by unfold argsOk;rw[signature?_of (id:="set_iterator.__next__") (n:=['_','_','t','x','e','n','_','_']) (o:=['r','o','t','a','r','e','t','i','_','t','e','s']) (by rfl) Et];rfl
theorem ke:Slot "set_iterator" "__iter__" "set_iterator.__iter__":=.of (owner:="set_iterator") (n:="__iter__") (by rfl) (by rfl) (by rfl) (by rfl) (by first|exact .inl (by rfl)|exact .inr (by decide+kernel)) (by rfl)
theorem qX:jdn table "set_iterator.__iter__"=p5 Vc.«dict_keyiterator.__iter__»:=Z9 (id':="dict_keyiterator.__iter__") (by kernel_rfl) rfl (by decide+kernel) (by kernel_rfl)
theorem tJ(a:Sw):argsOk "set_iterator.__iter__" ⟨[a],[]⟩:=by rfl
section
variable {A:Tr}{s:Sx}{es:Array (Int×Sw)}{i:Nat}
theorem gb.ty(h:gb w s.heap d es ep t):s.TypeIs (.ref d) "set":=let⟨o,_,h1,h2⟩:=h;⟨o,h1,h2.ex.1⟩
theorem gb.lt {h:Heap}(x:gb w h d es ep t):d<h.objs.size:=let⟨_,_,h1,_⟩:=x;SH h1
theorem gb.to {h h':Heap}(x:gb w h d es ep t)(k: ∀o,h.get? d=p5 o->h'.get? d=p5 o):gb w h' d es ep t:=let⟨o,xs,h1,r⟩:=x;⟨o,xs,k o h1,r⟩
theorem dr.ty(h:dr w t s.heap it d i n ep):s.TypeIs (.ref it) "set_iterator":=let⟨o,h1,h2,_⟩:=h;⟨o,h1,h2⟩
theorem nZ:jdn table "set.__iter__"=p5 Vc.«frozenset.__iter__»:=Z9 (id':="frozenset.__iter__") (by kernel_rfl) rfl (by decide+kernel) (by kernel_rfl)
theorem dq(h:Q (gc w) s):SL (model prog w) A setsByText Q E s:=by
 unfold setsByText;exact Ss (XD (Sv h))
theorem FN(x:gb w s.heap d es ep t)(q:Q (.ref s.heap.objs.size) {s with heap:=s.heap.push {cls:=.type "set_iterator",data:=.fields #[.int (v8 w t 0) 0,.int 0 0,.ref d,.int es.size 0,.int ep 0]}}):SL (model prog w) A (YS (.ref d)) Q E s:=by
 have ty:=x.ty;obtain⟨o,xs,b,S⟩:=x;refine YM ty jco (TU jco ty nZ ?_ (F.args_set_iter_1 _));unfold Vc.«frozenset.__iter__»;unfold jeI jdo;simp -iota only[V5,Wn,SW, ↓reduceIte,bind_assoc,VD,bne_self_eq_false];unfold VU jee setDrawn setEntries;refine Ss (Sv ?_)
 try dsimp only
 refine Ss (Sv ?_);refine Ss (Ss (Ss (TQ b S.hd S.fits (Sv (Sv ?_)))));refine Ss (Ss (TQ b S.hd S.fits ?_));dsimp only;refine Ss (dq (Sv ?_));have c:(!gc w&&(!t.plain&&Oo (es.size>1)))=false:=by rw[S.pl];simp
 refine Wk (λa=>absurd (show(!gc w&&(!t.plain&&Oo (es.size>1)))=S1 from a) (by rw[c];decide)) λ_=>?_
 refine Ss (Sv (Ss (Xo b S.hd S.fits ?_)));refine Ss (T6 (Sv ⟨_,rfl,"set_iterator",_,⟨_,SC _ rfl,rfl⟩,ei.lookup,?_⟩));have:v8 w t 0=0:=by simp[v8]
 rw[this] at q;simpa [Wb] using q
theorem xX(f:s.heap.get? d=p5 o)(S:SetAt w o es ep t xs)(h:Q (gD w d ep es) s):SL (model prog w) A (setWalk d) Q E s:=by
 unfold setWalk;refine Ss (TQ f S.hd S.fits ?_);dsimp only;refine Ss (dq ?_);unfold gD at h
 by_cases c:gc w=S1
 ·rw[if_pos c];rw[if_pos c] at h;exact Ss (XD (Sv h))
 ·rw[if_neg c];rw[if_neg c] at h;have e:(!t.plain&&Oo (es.size>1))=false:=by rw[S.pl];rfl
  refine Wk (λa=>absurd (show(!t.plain&&Oo (es.size>1))=S1 from a) (by rw[e];decide)) λ_=>?_
  have b:(!t.led&&Oo (es.size>1))=false:=by
   have:=S.led;unfold gc at c;nofun
  refine Ss ?_
  show SL _ _ (if(!t.led&&Oo (es.size>1))=S1 then U2 _ else pure PUnit.unit) _ _ _;rw[if_neg (by rw[b];decide)];exact Sv (Sv h)
theorem Az(g:s.heap.get? d=p5 o)(S:SetAt w o es ep t xs)(q:i<=es.size)(h:Q (((gD w d ep es)[i]?).map λe=>(e.2,v8 w t (i+1))) s):SL (model prog w) A (setNext d (v8 w t i) i ep) Q E s:=by
 unfold setNext;refine Ss (TQ g S.hd S.fits ?_);dsimp only;refine Ss (dq ?_)
 by_cases c:gc w=S1
 ·rw[if_pos c,bne_self_eq_false];simp -iota only[SW,if_false];refine Ss (xX g S (Sv ?_));have e: ∀i,v8 w t i=0:=λi=>by unfold v8;rw[if_pos c]
  rw[e] at h⊢;exact h
 ·rw[if_neg c];have m:(!t.plain&&Oo (es.size>1))=false:=by rw[S.pl];rfl
  refine Wk (λa=>absurd (show(!t.plain&&Oo (es.size>1))=S1 from a) (by rw[m];decide)) λ_=>?_
  have k:(!t.led&& !es.isEmpty)=false:=by
   have:=S.led;unfold gc at c;nofun
  refine Ss ?_
  show SL _ _ (if(!t.led&& !es.isEmpty)=S1 then U2 _ else pure PUnit.unit) _ _ _;rw[if_neg (by rw[k];decide)];refine Sv ?_
  have f:=S.T.sz;unfold qm at f;rw[SO,<-S.size] at f;have j:v8 w t i=if i=0 then 0 else t.place.getD (i-1) 0+1:=by unfold v8;rw[if_neg c]
  have b:v8 w t (i+1)=t.place.getD i 0+1:=by unfold v8;rw[if_neg c,if_neg (by simp)];rfl
  rw[j,D9 S.T.sp (by nofun)];refine Sv ?_
  have l:gD w d ep es=es:=by unfold gD;rw[if_neg c]
  rw[l,b] at h
  by_cases r:i<es.size
  ·have n:t.place[i]? =p5 (t.place[i]'(by nofun)):=Tl (by nofun);have p:t.place.getD i 0=t.place[i]'(by nofun):=by simp[jav,show i<t.place.size by simp_all]
   nofun
  ·rw[Xn (by nofun)] at h⊢;exact h
theorem FU(b:dr w t s.heap it d i es.size ep)(x:gb w s.heap d es ep t)(c:i<es.size)
 (q: ∀h',dr w t h' it d (i+1) es.size ep->Tw it s.heap h'->Q (p5 ((gD w d ep es)[i]'(by rw[jc];exact c)).2) {s with heap:=h'}):SL (model prog w) A (Wa (.ref it)) Q E s:=by
 have ty:=b.ty;obtain⟨o,e,j,a⟩:=id b;obtain⟨k,xs,f,S⟩:=id x;unfold Wa;refine Ss (WW (Uf (name:=VM "__next__") ty ei (TU ei ty jw ?_ (kY _))));unfold Vc.«set_iterator.__next__» jdo;simp -iota only[V5,Wn,SW, ↓reduceIte,bind_assoc,VD,bne_self_eq_false];refine Ss (Sv ?_);refine Ss (WD e a ?_);dsimp only;refine Ss (jai f S.hd S.fits ?_);rw[bne_self_eq_false];simp -iota only[SW,if_false,Vg];refine Ss (Az f S (Va c) ?_);have lt:i<(gD w d ep es).size:=by rw[jc];exact c
 rw[Tl lt];dsimp -iota only[X0];refine Ss (V0 e a (by simp) ?_);have h:(s.heap.update it (VT (·.setIfInBounds 0 (Wb (v8 w t (i+1):Nat))))).get? it=p5 _:=Ts _ e (U6 (UR a _));refine Ss (V0 (s:={s with heap:=s.heap.update it (VT (·.setIfInBounds 0 (Wb (v8 w t (i+1):Nat))))}) h (UR a _) (by grind) ?_);have g:(VT (·.setIfInBounds 1 (Wb ((i:Int)+1))) (VT (·.setIfInBounds 0 (Wb (v8 w t (i+1):Nat))) o)).data=.fields #[.int (v8 w t (i+1)) 0,.int ((i+1:Nat):Int) 0,.ref d,.int es.size 0,.int ep 0]:=by
  rw[UR (UR a _)];rfl
 have nx:dr w t ((s.heap.update it (VT (·.setIfInBounds 0 (Wb (v8 w t (i+1):Nat))))).update it (VT (·.setIfInBounds 1 (Wb ((i:Int)+1))))) it d (i+1) es.size ep:=
  ⟨_,Ts _ h (U6 g),(Xi ..).trans ((Xi ..).trans j),g⟩
 exact Sv ⟨_,rfl,Sv (q _ nx ((Tx ..).trans (Tx ..)))⟩
theorem Jg(c:A.handled=Sr)(e:dr w t s.heap it d es.size es.size ep)(x:gb w s.heap d es ep t)
 (q: ∀h',YK it s.heap h'->Q Sr {s with heap:=h'}):SL (model prog w) A (Wa (.ref it)) Q E s:=by
 have ty:=e.ty;obtain⟨o,g,i,f⟩:=id e;obtain⟨j,xs,h,S⟩:=id x;unfold Wa;refine Ss (WW (Uf (name:=VM "__next__") ty ei (TU ei ty jw ?_ (kY _))));unfold Vc.«set_iterator.__next__» jdo;simp -iota only[V5,Wn,SW, ↓reduceIte,bind_assoc,VD,bne_self_eq_false];refine Ss (Sv ?_);refine Ss (WD g f ?_);dsimp only;refine Ss (jai h S.hd S.fits ?_);rw[bne_self_eq_false];simp -iota only[SW,if_false,Vg];refine Ss (Az h S (SB _) ?_);rw[Xn (by simp[jc])];dsimp -iota only[Option.map_none];refine Ss (V0 g f (by simp) ?_);show SL _ _ (jdj (.type "StopIteration") []>>=_) _ _ _;refine Ss ?_
 simp -iota only[jdj,jdk];refine Ss (T6 (Ss (m:=Z1 _ _) (YJ (a:=Tn) (by rfl) (T6 ?_ (by size_fits)))) (by size_fits));simp -iota only[raiseNew];refine Ss (jar ?_);rw[show A.in1.handled=Sr from c];refine Ss (Sv (jcd ?_));refine Ss (V1 (T:="StopIteration") (b:=S1) ⟨_,SC _ rfl,rfl⟩ Z2 ?_);exact Sv (q _ (((Tx ..).extBut.push _).push _))
theorem dr.to {h h':Heap}(x:dr w t h it d i n ep)(k: ∀o,h.get? it=p5 o->h'.get? it=p5 o):dr w t h' it d i n ep:=let⟨o,h1,r⟩:=x;⟨o,k o h1,r⟩
theorem Gz(a:dr w t s.heap it d i n ep)(h:Q (.ref it) s):SL (model prog w) A (YS (.ref it)) Q E s:=by
 have ty:=a.ty;refine YM ty ke (TU ke ty qX ?_ (tJ _));show SL _ _ (ret (.ref it)) _ _ s;exact Sv ⟨_,rfl,"set_iterator",_,ty,ei.lookup,h⟩
theorem DN(c:A.handled=Sr)(I:Addr)(n:d≠I):Walks prog w A I [I,d] [I] es.size (λi v=> ∃e,(gD w d ep es)[i]? =p5 e/\v=e.2) (λi h=>dr w t h I d i es.size ep/\gb w h d es ep t) where
 sub:=λb f=>by nofun
 frame:=λ_ _ _ st m=>⟨st.1.to λo e=>m I (by simp) o e,st.2.to λo e=>m d (by simp) o e⟩
 item:=λi s Q E k st a=>FU st.1 st.2 k λh' g l=>a _ h' s.toks ⟨_,Tl (by rw[jc];exact k),rfl⟩ ⟨g,st.2.to λo e=>l.extBut d o n e⟩ λb o f e=>l.extBut b o (λh=>f (by simp[h])) e
 done:=λs Q E st a=>Jg c st.1 st.2 λh' j=>a h' s.toks λb o f e=>j b o (λh=>f (by simp[h])) e
 self:=λ_ _ _ _ st a=>Gz st.1 a
theorem Gi(c:s.TypeIs (.ref r) "set")(h:Q Pa s):SL (model prog w) A (Yh (.ref r)) Q E s:=by
 unfold Yh;refine Ss (XS c PySem.F.slot_set_len.lookup ?_);generalize hid:("set.__len__":String)=id0;wp_delta;rw[show splitId id0=p5 ("set","__len__") from by subst hid;rfl];subst hid;refine Ss (V1 (T:="set") (b:=S1) c (by rfl) ?_);refine Wk (λa=>absurd a ()) (λ_=>?_);refine Wk (λ_=>?_) (λa=>absurd (by rfl) a);refine Ss (jaR c ?_);exact Sv h
theorem KB:KdlSrc prog w "set" d d es.size (λi v=> ∃e,(gD w d ep es)[i]? =p5 e/\v=e.2) (λh=>gb w h d es ep t) where
 type:=λ_ h=>h.ty
 there:=λ_ h=>⟨h.lt,h.lt⟩
 keep:=λ_ _ h c=>h.to λo e=>c d (.inl rfl) o e
 notList:=by rfl
 notTuple:=by rfl
 hint:=λ_ _ _ _ h a=>Gi h.ty a
 iter:=λ_ _ b h=>⟨_,_,λ_ _ a=>FN h a,DN b _ (S7 h.lt),⟨_,SC _ rfl,rfl,rfl⟩,h.to λo e=>Sy _ e⟩
end
set_option maxHeartbeats 4000000
def aT(w:Tu):Obj:={cls:=.type "set",dict:=Sr,data:=.set #[] 0 (.fresh 0 0 (!gc w))}
theorem DM(f m:Nat)(l:Bool):TOk (.fresh f m l) [] where
 pw:=⟨3,by simp,by simp,rfl⟩
 sz:=rfl
 sp:=Wu
 sd:=Wu
 lp:=λj h=>by cases h
 ld:=λj h=>by cases h
 dj:=λj h=>by cases h
 fl:=by show 0<=7;simp
 rc:=λx h=>by nofun
theorem oS(w:Tu):de w (aT w) #[] 0 (.fresh 0 0 (!gc w)) []:=⟨⟨⟨rfl,rfl,rfl⟩,rfl,rfl,DM _ _ _,rfl,rfl,V4⟩,by show 0*5<7*3;simp⟩
section
variable {A:Tr}{E:Sw->Sx->Prop}{s:Sx}{xs:fT}
theorem KP(h:Q (.ref s.heap.objs.size) {s with heap:=s.heap.push (aT w)}):SL (model prog w) A (newSet (.type "set")) Q E s:=by
 unfold newSet;refine Ss (dq ?_);dsimp only;simp only[newObj];exact Ss (jbY (Sv h))
theorem xU {as:List Sw}(b:jbM "set.__new__" ⟨.type "set"::as,[]⟩=pure Unit.unit){Q₁:Sw->Sx->Prop}(h:Q₁ (.ref s.heap.objs.size) {s with heap:=s.heap.push (aT w)}):Vy (model prog w) A (.call (.builtin "set.__new__") ⟨.type "set"::as,[]⟩) (wants Q₁ E) s:=by
 refine XX ?_;show SL _ A.in1 (do jbM "set.__new__" ⟨.type "set"::as,[]⟩;ZW (.builtin "set.__new__" ⟨.type "set"::as,[]⟩)) _ _ s;refine Ss (YJ b (Sv ⟨YY jcp _,U3 F.entry_set_new ?_⟩));rw[UT jcp _];unfold Vc.«set.__new__» jdp;have a:=Zy;obtain⟨c,g,d,tk,os⟩:=s;dsimp only
 wp_walk;refine XD (Sv ?_)
 dsimp only;simp only[newObj];refine Ss (jbY (Sv ?_));exact Sv h
theorem zF(h:Q (.ref s.heap.objs.size) {s with heap:=s.heap.push (aT w)}):SL (model prog w) A (call (.type "set") []) Q E s:=by
 obtain⟨c,u,m⟩:=Um.mro;have i:=Um.made;have k:=Um.sub;refine jcP (XX ?_);show SL _ _ (callAny (.type "set") _) _ _ _;refine Sv ⟨jaC _ (by decide+kernel),U3 jbq ?_⟩;rw[jaD (ZS "set" [] []) rfl];have x:=Um.notType;have v:=Um.canCreate;have o:=F.typeCall_set_0
 repeat (any_goals (first|assumption|wp_step))
 refine Vo (xU (E:=E) F.newCall_set_0 (Q₁:=λobj b=>obj=.ref s.heap.objs.size/\b={s with heap:=s.heap.push (aT w)}) ⟨rfl,rfl⟩) λr b l=>?_
 cases r with
 |error e=>exact l
 |ok p=>
  cases p with
  |ret obj=>
   obtain⟨rfl,rfl⟩:=l;have j:(s.heap.push (aT w)).get? s.heap.objs.size=p5 (aT w):=SC _ rfl;have j:(s.heap.push (aT w)).get? s.heap.objs.size=p5 {cls:=.type "set",dict:=Sr,data:=.set #[] 0 (.fresh 0 0 (!gc w))}:=j;have t:jas {s with heap:=s.heap.push (aT w)} (.ref s.heap.objs.size) "set":=⟨_,j,rfl⟩
   have q:=Um.init.lookup;have n:=Um.init.bind (.ref s.heap.objs.size)
   repeat (any_goals (first|assumption|wp_step))
   refine Vo (jaa (R:=wants (λr a=>r=.none/\Q (.ref s.heap.objs.size) a) E) Um.init.plain jbN (check_set_init t ?_)) λg a f=>?_
   ·unfold Vc.«set.__init__» noKeywords
    wp_walk
    exact⟨rfl,h⟩
   ·cases g with
    |error e=>omega
    |ok d=>
     cases d with
     |ret r=>
      obtain⟨rfl,y⟩:=f
      repeat (any_goals (first|assumption|wp_step))
     |_=>omega
  |_=>omega
theorem SetAt.ty(b:s.heap.get? a=p5 o)(S:SetAt w o es ep t xs):s.TypeIs (.ref a) "set":=⟨o,b,S.ex.1⟩
theorem IW(f:s.heap.get? a=p5 o)(S:SetAt w o es ep t xs)(j:sK prog w s.heap xs)(n:A.units+1<Tq)(g:(KI prog w).is s.heap k b)
 (h:Q (.bool (Oo (k∈xs.map (·.1)))) {s with toks:=s.toks+(KI prog w).draws k}):SL (model prog w) A (U0 .In (.ref b) (.ref a)) Q E s:=by
 have e:=SetAt.ty f S;show SL _ _ (do return .bool (<-contains (.ref a) (.ref b))) Q E s;refine Ss ?_
 unfold contains
 try with_reducible refine TM ?_
 refine Ss (XS e X8.lookup ?_);show SL _ _ (if(p5 (Value.builtin "set.__contains__")==p5 Tn)=S1 then _ else _) _ E s;rw[if_neg (by simp)];refine Ss (wpAny_callSpecialUnlessNone?_slot (name:=VM "__contains__") e X8 (TU X8 e entry_set_contains ?_ (F.args_set_contains_2 _ _)));unfold Vc.«frozenset.__contains__» WE;simp only[V5,bind_assoc];unfold VU XF setContains;refine Ss (Sv ?_)
 try dsimp only
 refine Ss (Sv ?_)
 try dsimp only
 refine Ss (wpAny_tryCatch ?_);refine TM ?_
 have d:(KI prog w).room A.in1:=Uc n;refine Ss ((KI prog w).pyHash d g ?_);rw[As];refine Ss (wX (s:={s with toks:=s.toks+(KI prog w).draws k}) f S j d g (λi c l=>?_) λm=>?_)
 ·rw[v3 (SY.mpr ⟨(k,c),Tj l,rfl⟩)] at h;refine Sv ?_
  exact Sv ⟨_,rfl,UD (Sv h)⟩
 ·rw[v7 m] at h;refine Sv ?_
  exact Sv ⟨_,rfl,UD (Sv h)⟩
theorem GL(i:s.heap.get? a=p5 o)(S:de w o es ep t xs)(m:sK prog w s.heap xs)(v:A.units+1<Tq)(j:(KI prog w).is s.heap k b)(f:xs.length<=1000)
 (h: ∀h' o' e d t' c,Tw a s.heap h'->h'.get? a=p5 o'->de w o' e d t' c->((k∈xs.map (·.1)/\c=xs)\/(k∉xs.map (·.1)/\c.Perm (xs++[(k,b)])))->Q .none {s with heap:=h',toks:=s.toks+(KI prog w).draws k}):
 SL (model prog w) A (call (.builtin "set.add") [.ref a,.ref b]) Q E s:=by
 have p:=SetAt.ty i S.toSetAt;have g:(KI prog w).room A.in1:=Uc v;refine TU F.slot_set_add p F.entry_set_add ?_ (F.args_set_add_2 _ _)
 unfold Vc.«set.add» WE;simp only[V5,bind_assoc];unfold VU setAdd;refine Ss (Sv ?_)
 try dsimp only
 refine Ss (Sv ?_)
 try dsimp only
 refine Ss ?_
 refine TM (Ss ((KI prog w).pyHash g j ?_));rw[As];refine vb (s:={s with toks:=s.toks+(KI prog w).draws k}) i S m g j f (λq=>?_) λn h' o' e d t' c x r u l=>?_
 ·exact Sv ⟨_,rfl,h s.heap o es ep t xs (WB a s.heap) i S (.inl ⟨q,rfl⟩)⟩
 ·exact Sv ⟨_,rfl,h h' o' e d t' c x r u (.inr ⟨n,l⟩)⟩
theorem vt(l:s.heap.get? a=p5 o)(S:de w o es ep t xs)(p:sK prog w s.heap xs)(x:A.units+1<Tq)(m:(KI prog w).is s.heap k b)(g:xs.length<=1000)
 (h: ∀h' o' f e t' d,Tw a s.heap h'->h'.get? a=p5 o'->de w o' f e t' d->((k∉xs.map (·.1)/\d=xs)\/(∃i c,xs[i]? =p5 (k,c)/\d=xs.eraseIdx i))->Q .none {s with heap:=h',toks:=s.toks+(KI prog w).draws k}):
 SL (model prog w) A (call (.builtin "set.discard") [.ref a,.ref b]) Q E s:=by
 have r:=SetAt.ty l S.toSetAt;have j:(KI prog w).room A.in1:=Uc x;refine TU F.slot_set_discard r F.entry_set_discard ?_ (F.args_set_discard_2 _ _)
 unfold Vc.«set.discard» WE;simp only[V5,bind_assoc];unfold VU XF setDiscard;refine Ss (Sv ?_)
 try dsimp only
 refine Ss (Sv ?_)
 try dsimp only
 refine Ss (wpAny_tryCatch ?_);refine TM (Ss ((KI prog w).pyHash j m ?_));rw[As];refine nr (s:={s with toks:=s.toks+(KI prog w).draws k}) l S p j m g (λq=>?_) λz h' o' f e t' d y u v n=>?_
 ·exact Sv ⟨_,rfl,h s.heap o es ep t xs (WB a s.heap) l S (.inl ⟨q,rfl⟩)⟩
 ·exact Sv ⟨_,rfl,h h' o' f e t' d y u v (.inr n)⟩
end
def wa(i:Nat)(ρ:aB):Option (List (List Int)):=match ρ[i]? with
 |some (.ob (.tset ks))=>p5 ks
 |_=>Sr
theorem rB(h:wa i ρ=p5 ks):ρ[i]? =p5 (.ob (.tset ks)):=by
 grind[wa]
abbrev lv(xs:fT):List V:=xs.map λx=>V.ref x.2
abbrev yG(xs:fT):List D:=xs.map λx=>D.tup (x.1.map D.int)
section
variable {K:SA}{c:Ct}{ρ:aB}{σ:St}
theorem SR.setT(h:SR K c hid ρ σ H)(e:wa i ρ=p5 ks): ∃a xs,σ[i]? =p5 (p5 (.ref a))/\hid a=S1/\c.H₀ a=Sr/\H a=p5 (.tst xs)/\(xs.map (·.1)).Perm ks/\Reps K (vw H hid) (lv xs) (yG xs):=by
 obtain⟨a,d,⟨b,f⟩,us,k,g,j⟩:=h.sl i _ (rB e);nofun
theorem SR.putS{b:fT}(h:SR K c hid ρ σ H)(f:wa i ρ=p5 ks)(j:σ[i]? =p5 (p5 (.ref a)))(p:(b.map (·.1)).Perm ks')(r:Reps K (vw H hid) (lv b) (yG b)):SR K c hid (ρ.set i (.ob (.tset ks'))) σ (aW H a (.tst b)):=by
 obtain⟨k,us,e,d,g,n,l,m⟩:=h.setT f;rw[j] at e;cases e;exact h.putO (rB f) trivial trivial j (.inl rfl) d g nofun ⟨⟨d,g⟩,b,aA,p,by grind[bV]⟩
end
theorem items_int: ∀ {ns:List Int} {us:List Sw},cc (ns.map V.int) us->PySem.ItemsAre (intKind prog w) ns us
 | [],_,h=>by cases h;exact .nil
 |n::ns,_,h=>by
  cases h with
  |cons r a=>
   obtain⟨t,rfl⟩:=r;exact .cons (intKind_is _ _ _ _) (items_int a)
section
variable {X:Cx}{H:Hp}{s:Sx}{a b:Addr}
theorem kI {ks:List Int}(I:Inv X aa σ H s)(h:SqT X.K H b (ks.map V.int)):(KI X.prog X.w).is s.heap ks b:=by
 obtain⟨a,r,⟨o,d,c,n,e⟩,_⟩:=I.tuple h;exact⟨o,a.toArray,n,d,c,e,by grind[items_int]⟩
theorem pg(I:Inv X aa σ H s)(h: ∀x∈xs,SqT X.K H x.2 (x.1.map V.int)):sK X.prog X.w s.heap xs:=λx a=>kI I (h x a)
def PP:List V->Hp->VK->Prop:=λxs H Q=>xs=[]/\ ∀a,H a=Sr->Q (.ref a) (aW H a (.tst []))
theorem yF:cO X (.type "set") PP:=by
 intro a s σ H xs us Q I r h;obtain⟨rfl,q⟩:=h;cases r;refine zF ?_
 exact⟨.ref s.heap.objs.size,_,I.laid (t':=s.toks) (λb o e=>Sy _ e) (SB _) (show ci X.prog X.w _ _ _ (.tst []) from⟨_,_,_,_,SC _ rfl,oS _⟩),rfl,q _ (I.hok.fresh (SB _))⟩
def OI(zs:fT)(k:List Int)(b:Addr)(a:fT):Prop:=(k∈zs.map (·.1)/\a=zs)\/(k∉zs.map (·.1)/\a.Perm (zs++[(k,b)]))
def OV(zs:fT)(k:List Int)(a:fT):Prop:=(zs.map (·.1)).Nodup/\((k∉zs.map (·.1)/\a=zs)\/(∃(i:Nat) (c:Addr),zs[i]? =p5 (k,c)/\a=zs.eraseIdx i))
def OX(K:SA):V->List V->Hp->VK->Prop:=λx xs H Q=> ∃a b zs k,x=.ref a/\xs=[.ref b]/\H a=p5 (.tst zs)/\SqT K H b (k.map V.int)/\(∀z∈zs,SqT K H z.2 (z.1.map V.int))/\zs.length<=1000/\ ∀c,OI zs k b c->Q .non (aW H a (.tst c))
def Pv(K:SA):V->List V->Hp->VK->Prop:=λx xs H Q=> ∃a b zs k,x=.ref a/\xs=[.ref b]/\H a=p5 (.tst zs)/\SqT K H b (k.map V.int)/\(∀z∈zs,SqT K H z.2 (z.1.map V.int))/\zs.length<=1000/\ ∀c,OV zs k c->Q .non (aW H a (.tst c))
theorem Aq {h':Heap}{t':Nat}(I:Inv X aa σ H s)(e:H a=p5 (.tst xs))(f:Tw a s.heap h')(c:h'.get? a=p5 o')(S:de X.w o' es' ep' tb' zs'):
 Inv X aa σ (aW H a (.tst zs')) {s with heap:=h',toks:=t'}:=I.write (x:=a) (e:=a) (by rw[e];trivial) (.inl rfl) (λb u d g=>(f.2 b d).trans g) ⟨_,c⟩ ⟨_,_,_,_,c,S⟩
theorem Kp(z:X.A.units+1<Tq):Oa X "set.add" (OX X.K):=by
 intro C s σ H x xs v us Q I r B h;obtain⟨a,b,zs,k,rfl,rfl,c,e,hz,n,q⟩:=h;cases r;obtain⟨u,rfl,g⟩:=B.one;cases g;obtain⟨o,es,ep,t,y,S⟩:=(show ci X.prog X.w H s.heap a (.tst zs) from I.hok a _ c)
 refine GL y S (pg I hz) z (kI I e) n λh' o' i m t' l j p f d=>?_
 exact⟨.non,_,Aq I c j p f,rfl,q _ d⟩
theorem JB(z:X.A.units+1<Tq):Oa X "set.discard" (Pv X.K):=by
 intro C s σ H x xs v us Q I r B h;obtain⟨a,b,zs,k,rfl,rfl,c,e,hz,n,q⟩:=h;cases r;obtain⟨u,rfl,g⟩:=B.one;cases g;obtain⟨o,es,ep,t,y,S⟩:=(show ci X.prog X.w H s.heap a (.tst zs) from I.hok a _ c)
 refine vt y S (pg I hz) z (kI I e) n λh' o' i m t' l j p f d=>?_
 exact⟨.non,_,Aq I c j p f,rfl,q _ ⟨S.nd,d⟩⟩
end
section
variable {X:Cx}{ty:TE}
def QQ(K:SA)(ty d:TE):TE:=λσ H Q=>ty σ H λy e=>d σ e λx c=> ∃a b zs k,x=.ref a/\y=.ref b/\c a=p5 (.tst zs)/\SqT K c b (k.map V.int)/\(∀z∈zs,SqT K c z.2 (z.1.map V.int))/\Q (.bl (Oo (k∈zs.map (·.1)))) c
theorem Nk(G:X.A.units+1<Tq)(q:PE X i ty)(f:PE X o td):PC X .In i o (QQ X.K ty td):=by
 intro j s σ H Q I h;refine bB (q j s σ H _ I h) λp m ⟨y,l,v,F,D⟩=>bB (f j m σ l _ v D) λu B g=>?_
 obtain⟨x,e,c,E,a,b,zs,k,J,n,z,C,r,d⟩:=g;subst J n;obtain rfl:u=Tc a:=E;obtain rfl:p=Tc b:=F;obtain⟨o,es,ep,t,f,S⟩:=(show ci X.prog X.w e B.heap a (.tst zs) from c.hok a _ z)
 refine IW f S.toSetAt (pg c r) G (kI c C) ?_
 have d:Q (.bl (Oo (k∈jbk (λx:List Int×Addr=>x.1) zs))) e:=d;generalize decide (k∈jbk (λx:List Int×Addr=>x.1) zs)=bb at d⊢;exact⟨.bl bb,e,c.tok _,rfl,d⟩
end
abbrev RM(K:SA)(H:Hp):List V->List (List Int)->Prop:=Paired λy ks=> ∃b,y=.ref b/\SqT K H b (ks.map V.int)
theorem Fm {K:SA}: ∀ {zs:fT},(∀z∈zs,SqT K H z.2 (z.1.map V.int))->RM K H (lv zs) (zs.map (·.1))
 | [],_=>.nil
 |z::zs,h=>.cons ⟨z.2,rfl,h z SM⟩ (Fm λy a=>h y (SI _ a))
theorem BV {K:SA}: ∀ {ys:List V} {a:List (List Int)} {i:Nat},RM K H ys a->i<a.length-> ∃b,ys.getD i .non=.ref b/\SqT K H b ((a.getD i []).map V.int)
 |_,_,_,.nil,e=>by simp at e
 |_,_,0,.cons h _,e=>by nofun
 |_,_,i+1,.cons _ r,e=>by
  obtain⟨b,d,c⟩:=BV (i:=i) r (by nofun);grind
theorem qk: ∀zs:fT,cc (lv zs) (zs.map λx=>Tc x.2)
 | []=>.nil
 |_::zs=>.cons rfl (qk zs)
theorem x6 {α β:Type}(f:α->β){l m:List β}(p:l.Perm m): ∀zs:List α,m=zs.map f-> ∃a:List α,a.Perm zs/\l=a.map f:=by
 induction p with
 |nil=>simp
 |cons x p o=>
  intro zs e;cases zs with
  |nil=>nofun
  |cons z zs=>
   rw[SD] at e;injection e with n b
   obtain⟨a,h,j⟩:=o zs b;exact⟨z::a,h.cons z,by nofun⟩
 |swap x y l=>
  intro zs e;cases zs with
  |nil=>nofun
  |cons z zs=>
   cases zs with
   |nil=>nofun
   |cons k zs=>
    rw[SD,SD] at e;injection e with n b
    injection b with b s
    exact⟨k::z::zs,jdm z k zs,by nofun⟩
 |trans u t c i=>
  intro zs e;obtain⟨g,h,j⟩:=i zs e;obtain⟨d,q,r⟩:=c g j;exact⟨d,q.trans h,r⟩
theorem ji {k l:List (List Int)}(h:k.Perm l):aU aS k=aU aS l:=mP n6 ((a8 k).trans h) (fB n6 k)
section
variable {X:Cx}
open PySem.W
theorem lT(hc:X.calm=S1):cO X (.builtin "sorted") (λxs H Q=> ∃a zs,xs=[.ref a]/\H a=p5 (.tst zs)/\(∀z∈zs,SqT X.K H z.2 (z.1.map V.int))/\zs.length<64/\(∀z∈zs,z.1≠[])/\
 ∀l (F:fT),H l=Sr->(∀z∈F,z∈zs)->F.map (·.1)=aU aS (zs.map (·.1))->Q (.ref l) (aW H l (.lst (lv F)))):=by
 intro aa s σ H xs vs Q I r h;obtain⟨a,y,rfl,ha,O,hz0,hne0,q⟩:=h;obtain⟨u,rfl,rx⟩:=eQ r;cases rx;obtain⟨o,es,ep,t,ho,S⟩:=(show ci X.prog X.w H s.heap a (.tst y) from I.hok a _ ha)
 obtain⟨zs,pz,ez⟩:=x6 xt (l5 X.w a ep es) y S.he;have hsq: ∀z∈zs,SqT X.K H z.2 (z.1.map V.int):=λz hz=>O z (pz.mem_iff.mp hz)
 have L: ∀k∈zs.map (·.1),k≠[]:=λk hk=>by
  grind
 have hz:zs.length<64:=by rw[pz.length_eq];omega
 have ky:=Fm hsq;obtain⟨d,N⟩: ∃d,d=zs.map (·.1):=⟨_,rfl⟩
 rw[<-N] at ky L;have lk:d.length=zs.length:=by nofun
 obtain⟨f,R⟩: ∃f,f=zs.map λx=>Tc x.2:=⟨_,rfl⟩
 have W:f.length=d.length:=by nofun
 have rv:cc (lv zs) f:=by grind[qk]
 have sz:es.size=f.length:=by rw[S.toSetAt.size,<-pz.length_eq,W,lk]
 have raw:gb X.w s.heap a es ep t:=⟨o,y,ho,S.toSetAt⟩
 have gi: ∀i,i<d.length-> ∃(b:Addr) (o:Obj) (E:List Sw) (n:Nat),f.getD i Tn=.ref b/\s.heap.get? b=p5 o/\o.cls=.type "tuple"/\o.data=.seq E.toArray n/\o7 E (d.getD i []):=λi D=>by
  obtain⟨b,Z,Y⟩:=BV ky D;have r1:=i7 rv i;rw[Z] at r1;obtain⟨E,r',⟨o,ho,hc,n,hd⟩,_⟩:=I.tuple Y;grind[Ft]
 have kt: ∀(g:Heap),(∀c o,s.heap.get? c=p5 o->g.get? c=p5 o)-> ∀(l:List Sw) (B:List (List Int)),l.length=B.length->(∀i,i<B.length-> ∃(b:Addr) (o:Obj) (E:List Sw) (n:Nat),l.getD i Tn=.ref b/\s.heap.get? b=p5 o/\o.cls=.type "tuple"/\o.data=.seq E.toArray n/\o7 E (B.getD i []))->(∀k∈B,k≠[])->
  ∃M,KatTups g l M/\M.length=l.length/\ ∀v∈M,∃i t,v=W7 i t:=by
  intro g J l
  induction l with
  |nil=>intro B _ _ _;exact⟨[],.nil,rfl,λ_ h=>nomatch h⟩
  |cons v l ih=>
   intro B hl U hk;cases B with
   |nil=>cases hl
   |cons m B=>
    obtain⟨M,f1,f2,f3⟩:=ih B (by nofun) (λi D=>by simpa using U (i+1) (by nofun)) λk hk'=>hk k (by simp[hk'])
    obtain⟨b,o,E,n,g1,g2,g3,g4,g5⟩:=U 0 (by simp);simp[VW] at g1 g5;subst g1;cases m with
    |nil=>nofun
    |cons x xs=>
     cases g5 with
     |cons y1 y2=>
      obtain⟨t,rfl⟩:=y1;refine⟨_,jbl (J _ _ g2) g3 g4 (by simp;rfl) f1,by simp[f2],λv hv=>?_⟩;grind
 refine pZ (us:=f) (G:=λA=>(∀i∈A,i<d.length)/\A.map (λi=>d.getD i [])=aU aS d) (sz▸KB (es:=es) (ep:=ep) (t:=t)) (λi v D hv=>?_) (I.ok.hd hc) raw (by nofun) (λfew=>⟨λi D=>?_,?_⟩) (λY g tk J=>?_) (λg tk p e A J hp hG U=>?_)
 ·obtain⟨e,Z,rfl⟩:=hv;rw[<-Tk,ez,Uh] at Z;obtain⟨x,Y,rfl⟩:=S0.mp Z;rw[R,Uh,Y];rfl
 ·nofun
 ·rw[W,hX,fz (by nofun)]
 ·obtain⟨M,f1,f2,f3⟩:=kt g J f d W gi L;refine kat_kind (T:=.type "int") f1 ⋯ (λv hv=>?_) (by rfl) ⟨rfl,?_⟩
  ·obtain⟨i,t,rfl⟩:=f3 v hv;exact jbH
  ·rw[W];refine oy (b:=λi j=>aS (d.getD i []) (d.getD j [])) (AI n6 _) (by grind) (λi j C D hj hC=>?_) λp P S=>⟨rfl,?_,?_⟩
   ·obtain⟨b1,o1,ts1,n1,x1,x2,x3,x4,x5⟩:=gi i D;obtain⟨b2,o2,ts2,n2,y1,y2,y3,y4,y5⟩:=gi j hj;unfold jaf;rw[x1,y1];refine kat_lt (J _ _ x2) x4 (J _ _ y2) y4 ?_
    refine vM 0 x5 y5 ?_ hC;have z1:=UF x5;have z2:=UF y5;simp[z1,z2]
   ·intro i D;have:=P.perm.mem_iff.mp (VG.mp D);nofun
   ·exact gd n6 P S
 ·have lt: ∀i∈A,i<zs.length:=λi D=>by nofun
  have e1:(A.map λi=>zs.getD i ([],0)).map (·.1)=aU aS (y.map (·.1)):=by
   grind[ji,T9]
  have e2:lv (A.map λi=>zs.getD i ([],0))=A.map λi=>(lv zs).getD i .non:=by
   nofun
  have ll:A.length=y.length:=by
   have:=congrArg Ua e1;rw[SO,SO,(a8 (lt:=aS) (y.map (·.1))).length_eq,SO] at this;omega
  have qq:=q p (A.map λi=>zs.getD i ([],0)) (I.hok.fresh hp) (λz hz=>by
   grind) e1
  rw[e2] at qq;refine⟨.ref p,_,I.laid (t':=tk) J hp (show ci X.prog X.w _ g _ (.lst (A.map λi=>(lv zs).getD i .non)) from⟨?_,_,e,je rv A,U⟩),rfl,qq⟩;grind[T8]
end
theorem cx {K:SA}: ∀ {xs:fT},Reps K F (lv xs) (yG xs)-> ∀x∈xs,Rep K F (.ref x.2) (.tup (x.1.map D.int))
 | [],_,x,h=>by nofun
 |y::xs,r,x,h=>by
  cases r with
  |cons r a=>
   rcases S6.mp h with rfl|h
   ·exact r
   ·exact cx a x h
theorem iH {K:SA}: ∀ {xs:fT},(∀x∈xs,Rep K F (.ref x.2) (.tup (x.1.map D.int)))->Reps K F (lv xs) (yG xs)
 | [],_=>.nil
 |x::xs,h=>.cons (h x SM) (iH λy a=>h y (SI _ a))
theorem kS {K:SA}{ns:List Int}(h:Rep K (vw H hid) (.ref b) (.tup (ns.map D.int))):SqT K H b (ns.map V.int):=by
 obtain⟨b',z,e,_,a,c⟩:=(show eb K H (vw H hid) (.ref b) (.tup (ns.map D.int)) from .inl h).tup;cases e;rw[pb c,S4] at a;exact a
section
variable {X:Cx}{k:Kd}{fk:FE}{pos apos p:Pos}{x:Str}
def On(i:Nat):FS:=λρ=>.nx (ρ.set i (.ob (.tset [])))
theorem Jc(i:Nat)(m:X.N.Nodup)(l:X.mg "set"=Sr)(n:X.N[i]? =p5 x:=by rfl)(h:CO X.env.scope x:=by first|exact TL rfl|exact Te rfl)(j:Uw (.Call (.Name "set" p) [] [] cpos) (some (.Name x pos')) pos.line X.env=pure false:=by rfl)
 (s:X.fn x=S1\/X.env.scope.names.lookup x=p5 .local:=by first|exact .inl rfl|exact .inr rfl|assumption) (r:Gl X "set":=by rfl) (hv:T3 "set"=some (.type "set"):=by kernel_rfl):DS X c k (.Assign [.Name x pos'] (.Call (.Name "set" p) [] [] cpos) pos) (On i):=λρ=>PS.imp (j0 m n h (zn yF r l hv) j s) λD σ H f=>by
 obtain⟨hid,e,q⟩:=f;refine⟨rfl,λa d=>?_⟩;have g:=aJ d (.tst []);have u:=e.fresh d;refine q _ _ (bA hid a) (SR.setD (a:=a) (b:=.tset []) (e.hide g d aA) ⟨⟨cm,e.fresh0 d⟩,[],aA,List.Perm.refl _,.nil⟩ (e.notOw u) i) λb o w=>?_
 obtain⟨v,t⟩:=cW.mp w;refine cW.mpr ⟨?_,g b o t⟩;grind[bA]
def Ik(i:Nat)(fk:FE):FT:=λρ=>(wa i ρ).bind λks=>((fk ρ).bind nX).map λk=>decide (k∈ks)
theorem JA(i:Nat)(F:X.A.units+1<Tq)(G:DP X c k1 e fe)(u:X.N[i]? =p5 y:=by rfl)(k:lW X.env.scope y:=by first|exact TL rfl|exact Te (TL rfl)|exact Te (Te rfl))(g:(y==("__debug__":Str))=false:=by decide)
 (j:(y==("__classdict__":Str))=false:=by decide) (E:UV .In (.Name y py)=false:=by rfl):DT X c (.Compare e [.In] [.Name y py] pos) (Ik i fe):=λhid ρ=>
 PT.imp (vx (Nk F (G hid ρ) (pv i u k g j)) E) λσ H Q l=>by
  obtain⟨h,d,g,q⟩:=l;obtain⟨ks,C,g⟩:=Sz.mp g;obtain⟨m,p,rfl⟩:=S0.mp g;obtain⟨J,D,v⟩:=Sz.mp p;have t:=fA v;subst t;obtain⟨a,xs,r,L,I,x,M,B⟩:=h.setT C;refine⟨h,_,D,λz s o w=>⟨.ref a,r,?_⟩⟩;obtain⟨b,rfl,f⟩:=qC (RK.b k1 w λa n=>h.fresh n);have f:SqT X.K s b (m.map V.int):=by unfold iK at f;rw[S4] at f;exact f
  refine⟨a,b,xs,m,rfl,rfl,o _ _ x,f,λz hz=>kS ((cx B z hz).mono (aC o)),_,rfl,?_⟩;grind
def mS(ks:List (List Int))(k:List Int):List (List Int):=if k∈ks then ks else ks++[k]
def nC(ks:List (List Int))(k:List Int):List (List Int):=ks.filter λx=>decide (x≠k)
def Di(a:List (List Int)->List Int->List (List Int))(i:Nat)(fk:FE):GE:=λρ=>(wa i ρ).bind λks=>((fk ρ).bind nX).bind λk=>if ks.length<=1000 then p5 (.non,ρ.set i (.ob (.tset (a ks k)))) else Sr
theorem EG {zs a:fT}{k:List Int}(h:OI zs k b a)(p:(zs.map (·.1)).Perm ks):(a.map (·.1)).Perm (mS ks k)/\ ∀z∈a,z∈zs\/z=(k,b):=by
 unfold mS;rcases h with⟨c,rfl⟩|⟨c,d⟩
 ·grind
 grind
theorem Ge {zs a:fT}{k:List Int}(h:OV zs k a)(p:(zs.map (·.1)).Perm ks):(a.map (·.1)).Perm (nC ks k)/\ ∀z∈a,z∈zs:=by
 obtain⟨b,h⟩:=h;unfold nC;have f:=p.filter λx=>decide (x≠k)
 rcases h with⟨e,rfl⟩|⟨i,c,e,rfl⟩
 ·grind
 ·refine⟨?_,λz hz=>Y0 hz⟩;refine List.Perm.trans ?_ f;have d:(zs.map (·.1))[i]? =p5 k:=by grind
  rw[<-mn];generalize zs.map (·.1)=l at d b;refine(TC (V8 (Vx _ _) b) (V8 X9 b)).mpr λx=>?_
  rw[Xx,Tg,vu];constructor
  ·grind[jbr]
  ·rintro⟨h,g⟩;obtain⟨j,m⟩:=TK.mp h;grind
theorem Jt(i:Nat)(hu:X.A.units+1<Tq)(he:DP X c .s e fe)
 (T:X.N[i]? =p5 y:=by rfl) (hv:lW X.env.scope y:=by first|exact TL rfl|exact Te (TL rfl)|exact Te (Te rfl)) (S:(y==("__debug__":Str))=false:=by decide) (t:(y==("__classdict__":Str))=false:=by decide)
 (j:UG (.Name y py) "add" X.env (eval (.Name y py) X.env)=eval (.Name y py) X.env:=by rfl)
 (m:((Ul pos (SF [e] X.env)).all (λx=> !x.1)&&(XO pos (V7 [] X.env)).all (λx=>x.1.isSome)&&Oo ([e].length+([]:List VI).length+(if([]:List VI).isEmpty then 0 else 1)<30))=true:=by rfl)
 (k:(apos.endLine==pos.line)=true:=by rfl) (G:SF [e] X.env=(Pa,eval e X.env)::SF [] X.env:=by rfl) (g:(Ul pos (SF [] X.env)).any (·.1)=false:=by rfl):
 DE X c .s (.Call (.Attribute (.Name y py) "add" apos) [e] [] pos) (Di mS i fe):=λhid ρ=>
 PE.imp (xJ Zz PySem.F.slot_set_add PySem.F.type_set_add (Kp hu) (pv i T hv S t) (bn (he hid ρ) bW G) j m k G g) λσ H Q u=>by
  obtain⟨p,d,ρ',f,q⟩:=u;obtain⟨ks,I,f⟩:=Sz.mp f;obtain⟨J,O,f⟩:=Sz.mp f;obtain⟨dk,Z,V⟩:=Sz.mp O;split at f
  ·rename_i hz
   cases f;have R:=fA V;subst R;obtain⟨a,xs,B,a2,a3,C,L,E⟩:=p.setT I;refine⟨.ref a,B,.inr (.inr (.inr (.inr ⟨rfl,xs,C⟩))),p,_,Z,λz P l n=>?_⟩;have n:Rep X.K (vw P hid) z (.tup (J.map D.int)):=n;obtain⟨b,rfl,v⟩:=qC (.inl n);have v:=kS n;refine⟨a,b,xs,J,rfl,rfl,l _ _ C,v,λz hz=>kS ((cx E z hz).mono (aC l)),by have:=L.length_eq;nofun,λY r=>?_⟩;obtain⟨U,W⟩:=EG r L;refine q _ _ ⟨λb' o w M=>?_,(p.ext l).putS I B U (iH λz hz=>?_),.non⟩
   ·rw[az λw'=>⋯];exact l _ _ w
   ·rcases W z hz with h|rfl
    ·exact(cx E z h).mono (aC l)
    omega
  nofun
theorem JU(i:Nat)(Z:X.A.units+1<Tq)(he:DP X c .s e fe)
 (S:X.N[i]? =p5 y:=by rfl) (hv:lW X.env.scope y:=by first|exact TL rfl|exact Te (TL rfl)|exact Te (Te rfl)) (R:(y==("__debug__":Str))=false:=by decide) (r:(y==("__classdict__":Str))=false:=by decide)
 (h:UG (.Name y py) "discard" X.env (eval (.Name y py) X.env)=eval (.Name y py) X.env:=by rfl)
 (l:((Ul pos (SF [e] X.env)).all (λx=> !x.1)&&(XO pos (V7 [] X.env)).all (λx=>x.1.isSome)&&Oo ([e].length+([]:List VI).length+(if([]:List VI).isEmpty then 0 else 1)<30))=true:=by rfl)
 (j:(apos.endLine==pos.line)=true:=by rfl) (E:SF [e] X.env=(Pa,eval e X.env)::SF [] X.env:=by rfl) (g:(Ul pos (SF [] X.env)).any (·.1)=false:=by rfl):
 DE X c .s (.Call (.Attribute (.Name y py) "discard" apos) [e] [] pos) (Di nC i fe):=λhid ρ=>
 PE.imp (xJ Zz PySem.F.slot_set_discard PySem.F.type_set_discard (JB Z) (pv i S hv R r) (bn (he hid ρ) bW E) h l j E g) λσ H Q t=>by
  obtain⟨n,d,ρ',f,q⟩:=t;obtain⟨ks,G,f⟩:=Sz.mp f;obtain⟨I,M,f⟩:=Sz.mp f;obtain⟨dk,Y,U⟩:=Sz.mp M;split at f
  ·rename_i hz
   cases f;have P:=fA U;subst P;obtain⟨a,xs,v,a2,a3,B,J,C⟩:=n.setT G;refine⟨.ref a,v,.inr (.inr (.inr (.inr ⟨rfl,xs,B⟩))),n,_,Y,λz O k m=>?_⟩;have m:Rep X.K (vw O hid) z (.tup (I.map D.int)):=m;obtain⟨b,rfl,u⟩:=qC (.inl m);have u:=kS m;refine⟨a,b,xs,I,rfl,rfl,k _ _ B,u,λz hz=>kS ((cx C z hz).mono (aC k)),by have:=J.length_eq;grind,λW p=>?_⟩;obtain⟨T,V⟩:=Ge p J;refine q _ _ ⟨λb' o w L=>?_,(n.ext k).putS G v T (iH λz hz=>?_),.non⟩
   ·rw[az λw'=>⋯];exact k _ _ w
   ·exact(cx C z (V z hz)).mono (aC k)
  nofun
def Lv(i:Nat):FE:=λρ=>(wa i ρ).bind λks=>if ks.length<64/\ ∀k∈ks,k≠[] then p5 (.lst ((aU aS ks).map a7)) else Sr
theorem Jd(i:Nat)(g:X.calm=S1)(k:X.mg "sorted"=Sr)(A:X.N[i]? =p5 y:=by rfl)(o:lW X.env.scope y:=by first|exact TL rfl|exact Te (TL rfl)|exact Te (Te rfl))(b:(y==("__debug__":Str))=false:=by decide)
 (m:(y==("__classdict__":Str))=false:=by decide) (w:Gl X "sorted":=by rfl) (hv:T3 "sorted"=p5 (.builtin "sorted"):=by kernel_rfl)
 (u:SF [.Name y py] X.env=(Pa,eval (.Name y py) X.env)::SF [] X.env:=by rfl) (e:(Ul pos (SF [] X.env)).any (·.1)=false:=by rfl):DP X c .n (.Call (.Name "sorted" p) [.Name y py] [] pos) (Lv i):=λhid ρ=>
 PE.imp (fS (lT g) w k hv (bn (pv i A o b m) bW u) () (by rfl) u e) λσ H Q r=>by
  obtain⟨x,d,b,q⟩:=r;obtain⟨ks,D,b⟩:=Sz.mp b;split at b
  ·rename_i hz
   cases b;obtain⟨a,xs,v,G,F,B,j,t⟩:=x.setT D;have E:=j.length_eq;rw[SO] at E;refine⟨.ref a,v,a,xs,rfl,B,λz hz=>kS (cx t z hz),by nofun,λz f=>hz.2 _ (j.mem_iff.mp (T1 f)),λl h s k C=>q _ _ (aJ s _) (fH s (ab.refl _) ?_)⟩;have:(aU aS ks).map a7=yG h:=by
    rw[<-ji j,<-C,S4];rfl
   rw[this];exact iH λz hz=>cx t z (k z hz)
  nofun
end
def RJ(a:Addr)(o:Obj)(us:List (List aP×V))(ys:List V):It:=⟨λi H=>H a=p5 (.frz o (.dT us))/\i<ys.length,λi H x b=>b=H/\ys[i]? =p5 x,λi H=>H a=p5 (.frz o (.dT us))/\i=ys.length⟩
theorem Cj{K:SA}(a it:Addr){o:Obj}{es:Array jbD}(g:o.ExactDict)(L:o.data=.dict es ep)(G:cc ys (es.toList.map (·.key))):
 ox P w K tg (RJ a o us ys) [it] it (λi h=>h.IsKeyIter it a i es.size ep) where
 mem:=by simp
 obj:=λi h st b f=>by
  have e:b=it:=by simpa using f
  subst e;obtain⟨o,e,c,d⟩:=st;exact⟨o,e,λv z=>by nofun⟩
 keep:=λi h h' st k=>st.at λo e=>k it (by simp) o e
 item:=by
  intro X A hw C M i J s σ H E I m st p;subst A hw C;obtain⟨y,j⟩:=p;have n:=G.length;rw[SO,S8 (xs:=es)] at n;have R:i<es.size:=by nofun
  obtain⟨F,_⟩:=(show ci X.prog X.w H s.heap a (.frz o (.dT us)) from I.hok a _ y)
  obtain⟨q,r,N,D,t,B⟩:=m it (by simp);obtain⟨u,V,U⟩:=G.get (i:=i) (x:=ys[i]) (SJ j);have O:u=es[i].key:=by
   nofun
  refine v9 st ⟨o,F,g,L⟩ R λh' l Q=>?_
  have S:Inv X J σ H {s with heap:=h'}:=I.turned (t':=s.toks) (λb o f e=>(Q.2 b f).trans e) q r D t B;obtain⟨o',e,c,d⟩:=id l;exact⟨_,rfl,Ae (s:={s with heap:=h'}) e c d (by rfl) ⟨ys[i],H,S,by nofun,⟨rfl,SJ j⟩,l,λb f=>(m b f).1⟩⟩
 done:=by
  intro X A hw C M i J s σ H E I m st p;subst A hw C;obtain⟨y,rfl⟩:=p;obtain⟨F,_⟩:=(show ci X.prog X.w H s.heap a (.frz o (.dT us)) from I.hok a _ y)
  obtain⟨q,r,N,D,t,B⟩:=m it (by simp);have n:=G.length;rw[SO,S8 (xs:=es)] at n;rw[n] at st;exact BU (I.ok.hd M) st ⟨o,F,g,L⟩ λh' T=>⟨rfl,I.turned (t':=s.toks) (λb o f e=>T b o f e) q r D t B⟩
 self:=λ_ _ _ _ _ st h=>Z8 st h
def Rp(c:TE):TI:=λσ H R=>c σ H λx b=> ∃a o us,x=.ref a/\b a=p5 (.frz o (.dT us))/\ ∀xs,KTd b us xs->R (RJ a o us (xs.map λx=>V.ref x.2.1)) b
theorem Nm(A:PE X l tl):PI X tg l (Rp tl):=by
 intro t s σ H R I h;refine bB (A t s σ H _ I h) λv c f=>?_
 obtain⟨x,i,d,D,B⟩:=f;obtain⟨a,o,us,e,u,q⟩:=B;subst e;cases D;obtain⟨g,z,y,xs,r,o',es,ep,k,m,j,n,E⟩:=(show ci X.prog X.w i c.heap a (.frz o (.dT us)) from d.hok a _ u)
 rw[g] at k;cases k;have C:cc (xs.map λx=>V.ref x.2.1) (es.toList.map (·.key)):=by
  rw[n,S4];exact tO xs
 refine xb y ⟨o,g,m,j⟩ ?_
 refine⟨c.heap.objs.size,[c.heap.objs.size],_,_,i,rfl,d.kept (t':=c.toks) λb o e=>Sy _ e,Cj a _ m j C,⟨_,SC _ rfl,rfl,rfl⟩,λb p=>?_,q xs r⟩;have e:b=c.heap.objs.size:=by simpa using p
 subst e;exact d.fpOk (SB _) (d.hok.fresh (SB _))
section
variable {X:Cx}{c:Ct}{e f:Expr}{fk fv:FE}{pos apos p:Pos}
def So(K:SA)(c:Ct)(hid:bC)(fk:aB->Option (List Int))(ρ:aB):TE:=λσ H Q=>SR K c hid ρ σ H/\ ∃ns,fk ρ=p5 ns/\ ∀b a,ab H a->a b=p5 (.tup (ns.map V.int))->Q (.ref b) a
def DK(X:Cx)(c:Ct)(e:Expr)(fk:aB->Option (List Int)):Prop:= ∀hid ρ,PE X e (So X.K c hid fk ρ)
def pF(a:FA):aB->Option (List Int):=λρ=>((a ρ).bind cq).bind λns=>if ns.length<=1000 then p5 ns else Sr
theorem oD {K:SA}: ∀ {xs:List V} {ns:List Int},Reps K F xs (ns.map D.int)->xs=ns.map V.int
 |_,[],h=>by cases h;rfl
 |_,n::ns,h=>by
  cases h with
  |cons r a=>cases r;rw[oD a];rfl
theorem zc(l:DA X c es fs):DK X c (.Tuple es x1 p) (pF fs):=λhid ρ=>PE.imp (Fc (l hid ρ)) λσ H Q a=>by
 obtain⟨h,ns,e,q⟩:=a;obtain⟨m,d,e⟩:=Sz.mp e;obtain⟨ds,f,i⟩:=Sz.mp d;split at e
 ·rename_i hz
  cases e;have g:=dv i;subst g;refine⟨h,_,f,λzs n j b=>⟨?_,λt k=>?_⟩⟩
  ·have:=b.length;rw[SO] at this;rw[this,T8];lia
  ·rw[oD b];exact q t _ (j.trans (aJ k _)) aA
 nofun
def qz(f:FE):aB->Option (List Int):=λρ=>(f ρ).bind λd=>match d with
 | .lst ds=>cq ds
 |_=>Sr
theorem Gp(x:DP X c k1 e fe)(o:X.mg "tuple"=Sr)(u:Gl X "tuple":=by rfl)(hv:T3 "tuple"=p5 (.type "tuple"):=by kernel_rfl)
 (h:SF [e] X.env=(Pa,eval e X.env)::SF [] X.env:=by rfl) (f:(Ul pos (SF [] X.env)).any (·.1)=false:=by rfl):DK X c (.Call (.Name "tuple" p) [e] [] pos) (qz fe):=λhid ρ=>
 PE.imp (fD cE u o hv (bn (x hid ρ) bW h) () (by rfl) h f) λσ H Q g=>by
  obtain⟨j,ns,e,q⟩:=g;obtain⟨d,r,e⟩:=Sz.mp e;cases d with
  |lst ds=>
   have w:=dv e;subst w;refine⟨j,_,r,λv y m s=>?_⟩;obtain⟨a,xs,rfl,i,k⟩:=eb.lst (RK.b k1 s λa n=>j.fresh n);rw[oD k] at i;exact⟨a,_,rfl,.inl ⟨i,λl t=>q l _ (m.trans (aJ t _)) aA⟩⟩
  |_=>nofun
def jx(i:Nat)(fk:aB->Option (List Int))(fv:FE):FS:=λρ=>match nY i ρ with
 |some kvs=>(match fv ρ with
  |some d=>(match fk ρ with
   |some ns=>if kvs.length<=1000 then .nx (ρ.set i (.ob (.dT (kf kvs (iK ns) d)))) else .no
   |none=>.no)
  |none=>.no)
 |none=>.no
theorem lE(i:Nat)(P:X.A.units+1<Tq){fk:aB->Option (List Int)}(L:DK X c e fk)(hv:DP X c .s ev fv)(I:X.N[i]? =p5 y:=by rfl)(n:lW X.env.scope y:=by first|exact TL rfl|exact Te (TL rfl)|exact Te (Te rfl))(G:(y==("__debug__":Str))=false:=by decide)
 (m:(y==("__classdict__":Str))=false:=by decide) (M:Uw ev (p5 (.Subscript (.Name y py) e pos')) pos.line X.env=pure false:=by rfl):
 DS X c k (.Assign [.Subscript (.Name y py) e pos'] ev pos) (jx i fk fv):=λρ=>PS.imp (Ap P (pv i I n G m) (jM λhid=>L hid ρ) (jM λhid=>hv hid ρ) M) λD σ H o=>by
 obtain⟨hid,g,q⟩:=o;unfold jx at q;split at q
 ·rename_i kvs u
  split at q
  ·rename_i d C
   split at q
   ·rename_i ns F
    split at q
    ·rename_i hz
     obtain⟨a,us,p,O,Q,J,l⟩:=g.dictT u;refine⟨hid,g,d,C,λv x r z=>⟨.ref a,p,hid,g.ext r,ns,F,λb E w B=>?_⟩⟩;have f:=r.trans w;have h:E b=p5 (.tup ((iK ns).map kV)):=by rw[B];unfold iK;rw[S4];rfl
     refine⟨a,_,rfl,t6.t (k:=iK ns) (f _ _ J) h (by rw[l.len];exact SZ hz ()),?_⟩;have j:Rep X.K (vw x hid) v d:=z;refine q _ _ hid ((g.ext f).putDT u p (KRt.put (iK ns) (j.mono (aC w)) ⟨l.1,l.2.mono (aC f)⟩)) ?_
     rw[bV O];exact aC f
    ·exact q.elim
   ·exact q.elim
  ·exact q.elim
 ·exact q.elim
def xF(i:Nat)(fk:aB->Option (List Int))(a:FE):FE:=λρ=>(nY i ρ).bind λkvs=>(fk ρ).bind λns=>(a ρ).map λd=>(bZ kvs (iK ns)).getD d
theorem Hv(i:Nat)(S:X.A.units+1<Tq){fk:aB->Option (List Int)}(T:DK X c e fk)(I:DP X c .s f ff)(m:M2 X (.Name y py) "get" apos e f cpos)(M:X.N[i]? =p5 y:=by rfl)(u:lW X.env.scope y:=by first|exact TL rfl|exact Te (TL rfl)|exact Te (Te rfl))(g:(y==("__debug__":Str))=false:=by decide)
 (r:(y==("__classdict__":Str))=false:=by decide):DP X c .s (.Call (.Attribute (.Name y py) "get" apos) [e,f] [] cpos) (xF i fk ff):=λhid ρ=>
 PE.imp (wR S (pv i M u g r) (T hid ρ) (I hid ρ) m) λσ H Q x=>by
  obtain⟨n,d,g,q⟩:=x;obtain⟨kvs,R,g⟩:=Sz.mp g;obtain⟨ns,F,g⟩:=Sz.mp g;obtain⟨W,J,rfl⟩:=S0.mp g;obtain⟨a,us,G,Y,V,B,C⟩:=n.dictT R;refine⟨.ref a,G,a,rfl,.inr ⟨us,.inl B⟩,n,ns,F,λb U D E=>⟨n.ext D,_,J,λw o z O=>?_⟩⟩;have h:=D.trans z;have L:KRt X.K (vw o hid) us kvs:=⟨C.1,C.2.mono (aC h)⟩
  have j:o b=p5 (.tup ((iK ns).map kV)):=by rw[z _ _ E];unfold iK;rw[S4];rfl
  refine⟨_,lC.t (k:=iK ns) (h _ _ B) j,q _ o h ?_⟩;rcases L.val (iK ns) with⟨l,p⟩|⟨v,d,l,p,P⟩
  ·rw[l,p];exact O
  ·rw[l,p];exact P
end
section
variable {X:Cx}{s:Sx}
theorem Inv.re(I:Inv X aa σ H s)(e:H d=p5 u)(c:MP (p5 u))(t: ∀a,ci X.prog X.w a s.heap d u->ci X.prog X.w a s.heap d u'):Inv X aa σ (aW H d u') s:=by
 have g: ∀b xs,H b=p5 (.tup xs)->b≠d:=λb xs q z=>by subst z;rw[e] at q;cases q;exact c
 have no: ∀b y,H b=p5 (.own y)->b≠d:=λb xs q z=>by subst z;rw[e] at q;cases q;exact c
 have q:=I.hok d u e;obtain⟨o,f⟩:=q.there;exact I.write (x:=d) (e:=d) (t':=s.toks) (h':=s.heap) (by nofun) (.inl rfl) (λb v _ hv=>hv) ⟨o,f⟩ (t _ (q.stay (λb v _ h=>h) (λb h=>by rw[az (no b _ h)];exact h) λb xs h=>by rw[az (g b xs h)];exact h))
theorem Inv.nest(I:Inv X aa σ H s)(e:H d=p5 u)(a:MP (p5 u)):Inv X aa σ (aW H d (.nst p u)) s:=I.re e a λ_ h=>h
theorem Inv.unnest(I:Inv X aa σ H s)(e:H d=p5 (.nst p u)):Inv X aa σ (aW H d u) s:=I.re e trivial λ_ h=>h
end
section
variable {K:SA}{c:Ct}
theorem Paired.get {α β:Type}{F:α->β->Prop}: ∀ {l₁:List α} {l₂:List β} {i:Nat} {y:β},Paired F l₁ l₂->l₂[i]? =p5 y-> ∃x,l₁[i]? =p5 x/\F x y
 |_,_,_,_,.nil,e=>by simp at e
 |_,_,0,_,.cons r _,e=>by nofun
 |_,_,i+1,y,.cons _ t,e=>by
  obtain⟨u,b,a⟩:=Paired.get (i:=i) (y:=y) t (by simpa using e);nofun
theorem Paired.setN: ∀ {bs:List Addr} {us:List NO} {i:Nat} {d:Addr} {u':NO},bs.Nodup->Paired F bs us->bs[i]? =p5 d->G d u'->(∀b u,b≠d->F b u->G b u)->Paired G bs (us.set i u')
 |_,_,_,_,_,_,.nil,e,_,_=>by simp at e
 |_,_,0,d,u',n,.cons r t,e,g,k=>by
  simp at e;subst e;refine .cons g ?_
  have a:=(T5.mp n).1;clear r n g
  induction t with
  |nil=>exact .nil
  |cons h t' c=>
   rw[S6,not_or] at a;exact .cons (k _ _ (λe=>a.1 e.symm) h) (c a.2)
 |b::bs,_,i+1,d,u',n,.cons r t,e,g,k=>by
  have f:bs[i]? =p5 d:=by simpa using e
  refine .cons (k _ _ (λz=>?_) r) (Paired.setN (T5.mp n).2 t f g k);grind[Tj]
theorem NOk.at(h:NOk K c hid H a b u):(hid b=S1/\c.H₀ b=Sr)/\ ∃o,H b=p5 (.nst a o):=by
 cases u with
 |l ds=>obtain⟨e,_,d,_⟩:=h;exact⟨e,_,d⟩
 |k kvs=>obtain⟨e,_,d,_⟩:=h;exact⟨e,_,d⟩
end
section
variable {K:SA}{c:Ct}{ρ:aB}{σ:St}{H:Hp}
theorem rm(h:eA hid x b=S1):hid b=S1/\b≠x:=by
 unfold eA at h;nofun
theorem h9(n:b≠x):eA hid x b=hid b:=by unfold eA;simp[n]
theorem i8(d:hid x=S1):ab (vw H hid) (vw (aW H x u') (eA hid x)):=λb o q=>by
 obtain⟨c,a⟩:=cW.mp q;have n:b≠x:=λe=>by nofun
 exact cW.mpr ⟨by rw[h9 n];exact c,by rw[az n];exact a⟩
theorem Hj:vw (aW H x u') (eA hid x) x=p5 u':=cW.mpr ⟨by grind[eA],aA⟩
theorem SR.reveal {u':HO}(h:SR K c hid ρ σ H)(B:hid x=S1)(C:c.H₀ x=Sr)(no: ∀(i:Nat) a,Ow ρ[i]? ->σ[i]? =p5 (p5 (.ref a))-> ¬At H a x):SR K c (eA hid x) ρ σ (aW H x u'):=by
 have l:ab (vw H hid) (vw (aW H x u') (eA hid x)):=i8 B;have A: ∀b o,c.H₀ b=p5 o->b≠x:=λb o q e=>by nofun
 have p: ∀(i:Nat) (s:Sl) (a y:Addr),ρ[i]? =p5 s->Ow (p5 s)->σ[i]? =p5 (p5 (.ref a))->At H a y->y≠x:=λi s a y e o q k z=>by
  subst z;exact no i a (by nofun) q k
 refine⟨λb j=>?_,λb xs j=>?_,λb j=>?_,λb o q m=>by rw[az (A b o q)];exact h.kp b o q m,λb o q=>by rw[az (A b o q)];exact h.t0 b o q,h.c0,h.m0,h.len,λi s e=>?_,h.ap⟩
 ·obtain⟨f,g⟩:=rm j;rw[az g];exact h.tr b f
 ·obtain⟨f,g⟩:=rm j;rw[az g];exact h.ht b xs f
 ·obtain⟨o,q⟩:=h.c0 b j;rw[h9 (A b o q)];exact h.h0 b j
 ·have z:=h.sl i s e;cases s with
  |no=>trivial
  |v d=>obtain⟨x,f,g⟩:=z;exact⟨x,f,g.mono l⟩
  |own ds=>
   obtain⟨a,xs,f,g,t,w,u⟩:=z;have n:=p i _ a a e trivial f (.inl rfl);exact⟨a,xs,f,by rw[az n];exact g,by rw[h9 n];exact t,w,u.mono l⟩
  |arg ds=>
   obtain⟨a,xs,f,g,t,w,u⟩:=z;have n:=p i _ a a e trivial f (.inl rfl);exact⟨a,xs,f,by rw[az n];exact g,by rw[h9 n];exact t,w,u.mono l⟩
  |ob b=>
   obtain⟨a,f,g⟩:=z;exact⟨a,f,g.mono (λr y k o q=>by rw[az (p i _ a y e r f k)];exact q) l λr y k q=>by rw[h9 (p i _ a y e r f k)];exact q⟩
theorem SR.mark {i:Nat}{s:Sl}(h:SR K c hid ρ σ H)(g:uv K c hid σ H i s)(no: ¬Ow (p5 s)):SR K c hid (ρ.set i s) σ H:=by
 have a: ∀j:Nat,Ow (ρ.set i s)[j]? ->Ow ρ[j]? :=λj o=>by
  by_cases e:j=i
  ·subst e
   by_cases lt:j<ρ.length
   ·nofun
   grind
  ·rw[SS (To e)] at o;exact o
 refine⟨h.tr,h.ht,h.h0,h.kp,h.t0,h.c0,h.m0,by simp[h.len],λj s' e=>?_,λj l z n d f=>h.ap j l z n (a j d) (a l f)⟩
 by_cases b:j=i
 ·subst b;grind
 ·rw[SS (To b)] at e;exact h.sl j s' e
theorem SR.kind {j:Nat}(h:SR K c hid ρ σ H)(e:ρ[j]? =p5 s)(o:Ow (p5 s))(q:σ[j]? =p5 (p5 (.ref a))): ∃u,H a=p5 u/\ ∀p v,u≠ .nst p v:=by
 have z:=h.sl j s e;cases s with
 |no=>exact o.elim
 |v d=>exact o.elim
 |own ds=>obtain⟨i,xs,f,g,_⟩:=z;grind
 |arg ds=>obtain⟨i,xs,f,g,_⟩:=z;nofun
 |ob b=>obtain⟨i,f,g⟩:=z;rw[q] at f;cases f;exact g.kind o
end
def R1:NO->Option (List D)
 | .l ds=>p5 ds
 |_=>Sr
theorem Paired.mem {α β:Type}{F:α->β->Prop}: ∀ {l₁:List α} {l₂:List β} {x:α},Paired F l₁ l₂->x∈l₁-> ∃y,F x y
 |_,_,_,.nil,e=>by nofun
 |_,_,_,.cons r t,e=>by
  rcases S6.mp e with rfl|e
  ·exact⟨_,r⟩
  ·exact Paired.mem t e
theorem Paired.off {α β:Type}{F G:α->β->Prop}: ∀ {l₁:List α} {l₂:List β},Paired F l₁ l₂->(∀x y,x∈l₁->F x y->G x y)->Paired G l₁ l₂
 |_,_,.nil,_=>.nil
 |_,_,.cons r t,k=>.cons (k _ _ SM r) (Paired.off t λx y h=>k x y (SI _ h))
section
variable {X:Cx}{c:Ct}{σ:St}{s:Sx}{a:Addr}{β:Type}{conv:NO->Option β}{R:Hp->Addr->β->Prop}
def LK(X:Cx)(c:Ct)(d:List (Addr×Obj))(σ:St)(s:Sx)(conv:NO->Option β)(R:Hp->Addr->β->Prop):Prop:=
 (∀W e b v,ab W e->R W b v->R e b v)/\ ∀hid H a b u v,NOk X.K c hid H a b u->conv u=p5 v->Inv X d σ H s-> ∃u',(∀p w,u'≠ .nst p w)/\Inv X d σ (aW H b u') s/\ ∀W,W b=p5 u'->ab (vw H hid) W->R W b v
theorem Ks:LK X c aa σ s R1 (λW b ds=>Rep X.K W (.ref b) (.lst ds)):=by
 refine⟨λW j b v d h=>h.mono d,λhid H a b u v n e I=>?_⟩;cases u with
 |k ds=>cases e
 |l kvs=>
  cases e;obtain⟨_,us,g,f⟩:=n;exact⟨.lst us,nofun,I.unnest g,λW i d=>.lst i (f.mono d)⟩
theorem DD(L:LK X c aa σ s conv R): ∀ {bs:List Addr} {us:List NO} {vs:List β} {hid:bC} {H:Hp},Paired (NOk X.K c hid H a) bs us->us.mapM conv=p5 vs->bs.Nodup->(∀b∈bs,∀(i:Nat) k,Ow ρ[i]? ->σ[i]? =p5 (p5 (.ref k))-> ¬At H k b)->
 Inv X aa σ H s->SR X.K c hid ρ σ H-> ∃f d,Inv X aa σ f s/\SR X.K c d ρ σ f/\ab (vw H hid) (vw f d)/\Paired (R (vw f d)) bs vs/\(∀y,y∉bs->f y=H y/\d y=hid y)/\ ∀y p w,f y=p5 (.nst p w)->H y=p5 (.nst p w):=by
 intro bs
 induction bs with
 |nil=>
  intro us vs hid H m e J no I B;cases m;cases e;exact⟨H,hid,I,B,ab.refl _,.nil,λy _=>⟨rfl,rfl⟩,λ_ _ _ q=>q⟩
 |cons b bs T=>
  intro us vs hid H m e J no I B;cases m
  rename_i u us r t;rw[jdr] at e;obtain⟨v,S,e⟩:=Sz.mp e
  obtain⟨Z,V,e⟩:=Sz.mp e;cases e;obtain⟨u',n',W,hR⟩:=L.2 hid H a b u v r S I;have x:=r.at.1;have D:=B.reveal (u':=u') x.1 x.2 (no b SM);have h:ab (vw H hid) (vw (aW H b u') (eA hid b)):=i8 x.1;obtain⟨nb,G⟩:=T5.mp J;have g: ∀y p w,aW H b u' y=p5 (.nst p w)->H y=p5 (.nst p w):=λy p w q=>by
   grind[aA,az]
  have Y:Paired (NOk X.K c (eA hid b) (aW H b u') a) bs us:=by
   refine Lake.Paired.off t λn u2 ST N=>?_
   have M:n≠b:=λz=>by nofun
   exact N.mono (λw q=>by rw[az M];exact q) h λ_=>by rw[h9 M];exact N.at.1.1
  obtain⟨f,d,O,F,j,E,Q,n⟩:=T Y V G (λb' A i k o q C=>no b' (SI _ A) i k o q (C.imp id λ⟨w,hw⟩=>⟨w,g _ _ _ hw⟩)) W D;refine⟨f,d,O,F,h.trans j,.cons (L.1 _ _ _ _ j (hR _ Hj h)) E,λy l=>?_,λy p w q=>g _ _ _ (n y p w q)⟩;rw[S6,not_or] at l;obtain⟨P,U⟩:=Q y l.2;exact⟨P.trans (az l.1),U.trans (h9 l.1)⟩
theorem Er(e:H x=p5 o):aW H x o=H:=by
 funext b;grind[aA,az]
end
section
variable {X:Cx}
theorem uP {ρ:aB}:(ρ.set i a).set i b=ρ.set i b:=by simp
theorem rZ: ∀ {bs:List Addr} {l:List (List D)},Paired (λb ds=>Rep X.K W (.ref b) (.lst ds)) bs l->Reps X.K W (bs.map V.ref) (l.map D.lst)
 |_,_,.nil=>.nil
 |_,_,.cons r t=>.cons r (rZ t)
end
theorem Paired.app1 {α β:Type}{F:α->β->Prop}{x:α}{y:β}(h:F x y): ∀ {l₁:List α} {l₂:List β},Paired F l₁ l₂->Paired F (l₁++[x]) (l₂++[y])
 |_,_,.nil=>.cons h .nil
 |_,_,.cons r t=>.cons r (Paired.app1 h t)
end
end Lake
namespace PySem
noncomputable section
open PySem PySem.Spec PyProof.Rows
section
theorem qN(c:s.heap.get? l=p5 {cls:=.type "list",data:=.seq us n})
 (h: ∀g,XZ g (s.heap.objs.size+1) s.heap.objs.size 0 .none->g.IsListIter s.heap.objs.size l 0->g.objs.size=s.heap.objs.size+2->(∀b o,s.heap.get? b=p5 o->g.get? b=p5 o)->Q (.ref (s.heap.objs.size+1)) {s with heap:=g}):
 SL (model prog w) A (call (.type "enumerate") [.ref l]) Q E s:=by
 refine callType_new jaA (by rfl) (Zw _) (ZN _) (λobj=>Z3 obj _) ZO (meets_enumerate_new l us n) ⟨c,?_⟩;have hz:(s.heap.push {cls:=.type "list_iterator",data:=.fields #[.ref l,.int 0 0]}).objs.size=s.heap.objs.size+1:=UY ..;show _/\_;rw[hz];have a:XZ ((s.heap.push {cls:=.type "list_iterator",data:=.fields #[.ref l,.int 0 0]}).push {cls:=.type "enumerate",data:=.fields #[.none,.bool Pa,.ref s.heap.objs.size,Wb 0,.none,.none]}) (s.heap.objs.size+1) s.heap.objs.size 0 .none:=by
  have:=SC (s.heap.push {cls:=.type "list_iterator",data:=.fields #[.ref l,.int 0 0]}) (o:={cls:=.type "enumerate",data:=.fields #[.none,.bool Pa,.ref s.heap.objs.size,Wb 0,.none,.none]}) rfl;rw[hz] at this;omega
 exact⟨⟨_,a,rfl⟩,h _ a ⟨_,Sy _ (SC _ rfl),rfl,rfl⟩ (by simp) λb o x=>Sy _ (Sy _ x)⟩
end
end
end PySem
namespace Lake
noncomputable section
open PySem PySem.Spec PyProof.Rows
def RU(K:SA)(a:Addr):It:=
 ⟨λi H=> ∃xs x,SqL K H a xs/\xs[i]? =p5 x,λi H x b=> ∃T,x=.ref T/\H T=Sr/\ ∀xs,SqL K H a xs-> ∃y,xs[i]? =p5 y/\b=aW H T (.tup [.int i,y]),λi H=> ∃xs,SqL K H a xs/\xs.length<=i⟩
theorem yL{K:SA}{x1}(a it e:Addr)(n:e≠it):ox P w K (.Tuple es x1 pos) (RU K a) [e,it] e (λi h=>(∃old,XZ h e it i old)/\h.IsListIter it a i) where
 mem:=by simp
 obj:=λi h st b d=>by
  obtain⟨⟨old,j⟩,o,ho,V,hd⟩:=st;grind
 keep:=λi h h' st k=>by
  obtain⟨⟨old,j⟩,c⟩:=st;exact⟨⟨old,k e (by simp) _ j⟩,c.at λo x=>k it (by simp) o x⟩
 item:=by
  intro X T hw Z V i C s σ H E I F st M;subst T hw Z;obtain⟨xs,x,D,N⟩:=M;obtain⟨R,rv,p,hz⟩:=I.list D;obtain⟨u,hu,ru⟩:=rv.get N;obtain⟨⟨old,j⟩,c⟩:=st;obtain⟨e0,e1,e2,e3,e4,e5⟩:=F e (by simp);obtain⟨J,O,f2,f3,S,Y⟩:=F it (by simp);have ht:=p.isList;refine wpAny_pyNext_enum_item (x:=u) j c ht (by simpa using hu) n λg A l hT hsz hk=>⟨_,rfl,?_⟩
  refine Yu A λg' W f=>?_
  have r:e<s.heap.objs.size:=SH j;have k2: ∀b o,b≠e->b≠it->s.heap.get? b=p5 o->g'.get? b=p5 o:=λb o h1 h2 h3=>(f.2 b h1).trans (hk b o h1 h2 h3)
  have hT':g'.get? s.heap.objs.size=p5 {cls:=.type "tuple",data:=.seq #[.int i s.toks,u]}:=(f.2 _ (Ux r)).trans hT;have hn:H s.heap.objs.size=none:=I.hok.fresh (SB _);have U:Inv X C σ (aW H s.heap.objs.size (.tup [.int i,x])) {s with heap:=g',toks:=s.toks+1}:=by
   obtain⟨v,hoi,hci,L⟩:=id (show g'.IsListIter it a (i+1) from l.at λo y=>(f.2 it (To n)).trans y);obtain⟨os0,m,_⟩:=id c;have Q:it<s.heap.objs.size:=SH m;have I0:Inv X C σ (aW H s.heap.objs.size (.tup [.int i,x])) {s with heap:=s.heap.push {cls:=.type "tuple",data:=.seq #[.int i s.toks,u]},toks:=s.toks+1}:=
    I.laid (t':=s.toks+1) (λb o q=>Sy _ q) (SB _) (show ci X.prog X.w _ _ _ (.tup [.int i,x]) from
     ⟨Va (fC (by simp)),[.int i s.toks,u],.cons ⟨_,rfl⟩ (.cons ru .nil),⟨_,SC _ rfl,rfl,_,rfl⟩,_,SC _ rfl,rfl⟩)
   have u1:((s.heap.push {cls:=.type "tuple",data:=.seq #[.int i s.toks,u]}).update it λ_=>v).get? it=p5 v:=Ts (λ_=>v) (Sy _ m) (U6 L);have U:Inv X C σ (aW H s.heap.objs.size (.tup [.int i,x])) {s with heap:=(s.heap.push {cls:=.type "tuple",data:=.seq #[.int i s.toks,u]}).update it λ_=>v,toks:=s.toks+1}:=
    I0.turned (t':=s.toks+1) (λb o d q=>(Uy _ _ (To d)).trans q) (by rw[az (S7 Q)];exact J) O f3 S Y
   refine U.turned (t':=s.toks+1) (λb o d q=>?_) (by rw[az (S7 r)];exact e0) e1 e3 e4 e5
   by_cases B:b=it
   ·nofun
   ·have G:((s.heap.push {cls:=.type "tuple",data:=.seq #[.int i s.toks,u]}).update it λ_=>v).get? b=p5 o:=q;rw[Uy _ _ (To B)] at G
    by_cases t:b=s.heap.objs.size
    ·subst t;rw[SC _ rfl] at G;nofun
    ·rw[YL _ _ _ t] at G;exact k2 b o d B G
  refine⟨.ref s.heap.objs.size,aW H s.heap.objs.size (.tup [.int i,x]),U,rfl,⟨_,rfl,hn,λys hy=>⟨x,by rw[I.list_inj hy D];exact N,rfl⟩⟩,⟨⟨u,by simpa using W⟩,l.at λo y=>(f.2 it (To n)).trans y⟩,λb d=>?_⟩;rcases S6.mp d with rfl|d
  ·rw[az (S7 r)];exact e0
  ·have:b=it:=by simpa using d
   subst this;obtain⟨o,ho,_⟩:=c;rw[az (S7 (SH ho))];exact J
 done:=by
  intro X T hw Z V i C s σ H E I F st M;subst T hw Z;obtain⟨xs,D,N⟩:=M;obtain⟨R,rv,p,hz⟩:=I.list D;obtain⟨⟨old,j⟩,c⟩:=st;obtain⟨J,O,f2,f3,S,Y⟩:=F it (by simp);have hl:=rv.length;have hh:=I.ok.hd V;refine wpAny_pyNext_enum_end hh j c p.isList (by nofun) λg k=>⟨rfl,I.turned (t':=s.toks) (λb o d z=>k b o d z) J O f3 S Y⟩
 self:=λ_ _ _ _ _ st h=>let⟨⟨_,j⟩,_⟩:=st;Xj j h
section
variable {X:Cx}{p:Pos}
def Ni(f:FE):FA:=λρ=>(f ρ).bind λd=>match d with
 | .lst ds=>p5 (jY ds)
 |_=>Sr
theorem zT {K:SA}(b:SqL K W a xs)(c:Reps K W xs ds):pk K W (RU K a) (jY ds):=by
 have l:=c.length;have k:(jY ds).length=ds.length:=by simp[jY]
 refine⟨λi d H e s=>?_,λH s=>⟨_,ab.seq s b,by nofun⟩⟩;have w:i<ds.length:=by rw[<-k];exact(SK.mp e).1
 have t:xs[i]? =p5 xs[i]:=SJ (by nofun);refine⟨⟨_,xs[i],ab.seq s b,t⟩,λy v ⟨T,h,f,r⟩=>?_⟩;subst h;obtain⟨z,n,j⟩:=r _ (ab.seq s b);subst j;refine⟨aJ f _,λhid p m=>?_⟩;have g:hid T=false:=by
  cases eh:hid T with
  |false=>rfl
  |true=>obtain⟨o,A⟩:=p T eh;nofun
 obtain⟨d',x,u⟩:=c.get' n;have q:d=.tup [.int i,d']:=by
  unfold jY at e;nofun
 rw[q];exact gL f g (.cons .int (.cons (u.mono m) .nil))
theorem CB {a:Expr}(h:DP X c .s a f)(O:X.mg "enumerate"=Sr)(E:Gl X "enumerate":=by rfl)(y:SF [a] X.env=[(Pa,eval a X.env)]:=by rfl):DIp X c (.Tuple es x1 tp) (.Call (.Name "enumerate" p) [a] [] pos) (Ni f):=by
 intro hid ρ C s σ H R I D;obtain⟨F,ds,t,q⟩:=D;unfold Ni at t;cases e1:f ρ with
 |none=>nofun
 |some z=>
  rw[e1] at t;cases z with
  |lst us=>
   cases t;refine Call_ (iR (u:=.type "enumerate") I E O (by rfl) (UU (bB (bn (h hid ρ) bW y pos C s σ H (λvs k=> ∃v,vs=[v]/\ab H k/\Rep X.K (vw k hid) v (.lst us)) I ⟨F,_,e1,λv k s' r=>⟨v,rfl,s',r⟩⟩) λvs i ⟨S,j,d,Q,w,e,s',r⟩=>?_) y rfl));subst e;cases Q with
   |cons N G=>
    cases G;cases r with
    |lst A M=>
     cases N;have x:SqL X.K (vw j hid) _ _:=SqL.of A;obtain⟨J,n,T,P,hz⟩:=d.lst (bU _ _ _ _ A);refine qN P λg B m hsz L=>?_
     refine Xj B ⟨_,[i.heap.objs.size+1,i.heap.objs.size],_,_,j,rfl,d.kept (t':=i.toks) λb o e=>L b o e,yL _ _ _ (Ux (WH _)),⟨⟨_,B⟩,m⟩,λb l=>?_,q _ j s' (zT x M)⟩;rcases S6.mp l with rfl|l
     ·exact d.fpOk (W9 _) (d.hok.fresh (W9 _))
     ·have:b=i.heap.objs.size:=by simpa using l
      subst this;exact d.fpOk (SB _) (d.hok.fresh (SB _))
  |_=>nofun
end
set_option maxHeartbeats 1000000
open PySem PyProof.Rows
set_option maxHeartbeats 2000000
set_option maxHeartbeats 1000000
open PySem PySem.W PySem.Calls PyProof.Rows
open PySem PySem.W PyProof.Rows
section
variable {b:Addr}{es:Array (Int×Sw)}{t:T4}{xs:fT}{k:List Int}
theorem Eo(S:SetAt w o es ep t xs){q c:Nat}(y:3<=q)(j:q<=12)(D:c+1=2^q)(e f:Nat)(v:xs.length*5<c*3): ∃(b a:Array Nat),YQ c e f t.led t.plain (es.map (·.1))=p5 (⟨c,b, #[],e,t.led,f,t.plain⟩,a)/\
 a.toList.Perm (Su xs.length)/\(∀(o':Obj) (d:Nat),o'.ExactSet->o'.data=.set (a.filterMap (es[·]?)) d ⟨c,b, #[],e,t.led,f,t.plain⟩->
  de w o' (a.filterMap (es[·]?)) d ⟨c,b, #[],e,t.led,f,t.plain⟩ (n4 xs a.toList))/\(a.filterMap (es[·]?)).size=es.size:=by
 have u:(es.map (·.1)).size=xs.length:=by rw[jcE,S.size]
 obtain⟨b,a,C,g,p⟩:=AK y j D e f t.led t.plain (es.map (·.1)) (by rw[u];grind);rw[u] at g;have lt: ∀i∈a.toList,i<xs.length:=λi h=>SV.mp (g.mem_iff.mp h)
 have r:(a.filterMap (es[·]?)).toList=(n4 xs a.toList).map xt:=by
  rw[Zk];unfold n4;rw[S4];have m: ∀l:List Nat,(∀i∈l,i<xs.length)->l.filterMap (λi=>es[i]?)=l.map (xt∘λi=>xs.getD i ([],0)):=by
   intro l
   induction l with
   |nil=>intro _;rfl
   |cons i l F=>
    intro v;have x:=v i SM;have E:es[i]? =p5 (xt (xs.getD i ([],0))):=by
     rw[S.at_,SJ x];nofun
    grind
  exact m _ lt
 have B:qm (n4 xs a.toList)=a.toList.map λk=>(es.map (·.1)).toList.getD k 0:=by
  unfold qm n4;rw[S4];refine T9 λi h=>?_
  have:=lt i h;rw[rF S];show th (xs.getD i ([],0)).1=(qm xs).getD i 0;unfold qm;grind[VW]
 have s:=i5 g;refine⟨b,a,C,g,λo' d n A=>?_,?_⟩
 ·refine⟨⟨n,A,r,by rw[B];exact p,S.led,S.pl,?_⟩,?_⟩
  ·exact((s.map (·.1)).nodup_iff).mpr S.nd
  ·have z:=p.sz;rw[SO,g.length_eq,UB] at z;show(b.size+0)*5<c*3;nofun
 ·rw[<-S8,r,SO,s.length_eq,S.size]
theorem Ki(l:s.heap.get? a=p5 o)(S:de w o es ep t [])(j:t.fill=0)(R:n<=1000)
 (h: ∀h' o' g f t',Tw a s.heap h'->h'.get? a=p5 o'->de w o' g f t' []->t'.fill=0->n*5<t'.mask*3->Q Unit.unit {s with heap:=h'}):SL (model prog w) A (jds a n) Q E s:=by
 unfold jds;have k:=S.toSetAt;refine Ss (TQ l S.hd k.fits ?_);dsimp only;have N:t.place.size=0:=by have:=k.T.sz;simpa [qm] using this
 unfold SetTable.roomFor;rw[j,N,Xe]
 by_cases c:n*5≥t.mask*3
 ·rw[if_pos c];dsimp only;have hw:n*2<=4095:=by grind
  have V:7<=t.mask:=by
   obtain⟨q,B,_,O⟩:=S.T.pw;have P:2^3<=2^q:=TW (by simp) B;lia
  obtain⟨d,b,m,C,D,K,v⟩:=sH k hw (by show 0*5<_;omega);obtain⟨q,U,p,e,L⟩:=hZ hw
  have J:setRelay a (n*2)=(do
   let(es,_,t) <-jaU a
   if TN (n*2)>SU then U2 "set:memory"
   let(es,t) <-(do
    let some (t,b):=t.relaid (es.map (·.1)) (n*2)|U2 "internal:set-table-without-room"
    let g:=b.filterMap (es[·]?)
    if g.size !=es.size then U2 "internal:set-table-lost-an-element"
    pure (g,t):Sem (Array (Int×Sw)×T4))
   jcF a es t):=rfl
  rw[J];refine Ss (TQ l S.hd k.fits ?_);dsimp only;have M:2^q<=2^12:=TW (by simp) p;have F:(2:Nat)^12=4096:=by simp
  rw[if_neg (by rw[e,T8];omega),C];dsimp only;rw[v,bne_self_eq_false];simp only[SW,if_false];refine Ss (Sv ?_);dsimp only;have x:(b.filterMap (es[·]?)).size<=sizeLine:=by
   rw[v,k.size,T8];simp
  refine VH l S.hd ?_ x;have u:=Ts (W3 (b.filterMap (es[·]?)) ⟨TN (n*2) -1,d, #[],t.finger,t.led,m,t.plain⟩) l (by rw[VX _ _ S.hd];rfl);rw[VX _ _ S.hd] at u;have r:b.toList=[]:=by
   have:=D.length_eq;simp at this;simpa using this
  have H:n4 ([]:fT) b.toList=[]:=by rw[r];rfl
  have i: ∀(o':Obj) (f:Nat),o'.ExactSet->o'.data=.set (b.filterMap (es[·]?)) f ⟨TN (n*2) -1,d, #[],t.finger,t.led,m,t.plain⟩->de w o' (b.filterMap (es[·]?)) f ⟨TN (n*2) -1,d, #[],t.finger,t.led,m,t.plain⟩ []:=λo' f I y=>by
   have:=K o' f I y;rw[H] at this;omega
  have G:=i {cls:=.type "set",dict:=Sr,data:=.set (b.filterMap (es[·]?)) 0 ⟨TN (n*2) -1,d, #[],t.finger,t.led,m,t.plain⟩} 0 ⟨rfl,rfl,rfl⟩ rfl;refine h _ _ _ _ _ (Tx s.heap a _) u (i _ _ S.ex rfl) ?_ ?_
  ·have:=G.T.sz;have z:d.size=0:=by simpa [qm] using this
   show d.size+0=0;omega
  ·show n*5<(TN (n*2) -1)*3;omega
 ·rw[if_neg c];dsimp only;exact Sv (h s.heap o es ep t (WB a s.heap) l S j (by nofun))
theorem xz(s o:Addr)(a:Sem Unit):setMerge s o a=(do
 if s==o then return
 let(eo,epoch,to) <-jaU o
 if eo.isEmpty then return
 jds s eo.size
 let(_,_,ts) <-jaU s
 match ts.road to with
 | .slotForSlot=>jcF s eo {to with finger:=ts.finger,led:=ts.led&&to.led,moves:=ts.moves,plain:=ts.plain&&to.plain}
 | .clean=>
   let(es,t) <-(do
    let some (t,order):=(YQ ts.mask ts.finger ts.moves (led:=ts.led&&to.led) (plain:=ts.plain&&to.plain) (eo.map (·.1)))|U2 "internal:set-table-without-room"
    let b:=order.filterMap (eo[·]?)
    if b.size !=eo.size then U2 "internal:set-table-lost-an-element"
    pure (b,t):Sem (Array (Int×Sw)×T4))
   jcF s es t
 | .oneByOne=>
   for (h,x) in<-setWalkUnseen o [s] (p5 s) do
    let _ <-WZ [x] (Zl s x h)
    a
    if(<-jaU o).2.1 !=epoch then U2 "set.changed-during-merge"):=rfl
theorem E7(C:a≠l)(D:s.heap.get? a=p5 o)(S:de w o es ep t [])(n:t.fill=0)(B:s.heap.get? l=p5 ol)(Sl:de w ol esl epl tl xs)(O:xs.length<=1000)
 (h: ∀h' o' u x t' k,Tw a s.heap h'->h'.get? a=p5 o'->de w o' u x t' k->k.Perm xs->Q Unit.unit {s with heap:=h'}):SL (model prog w) A (setMerge a l each) Q E s:=by
 rw[xz,if_neg (by simpa using C)];have b:=Sl.toSetAt;refine Ss (TQ B Sl.hd b.fits ?_);dsimp only
 by_cases y:esl.isEmpty=S1
 ·rw[if_pos y];have:xs=[]:=by
   have:=b.size;grind
  subst this;exact Sv (h s.heap o es ep t [] (WB a s.heap) D S (.refl _))
 ·rw[if_neg y];refine Ss (Ki D S n (by rw[b.size];exact O) λp V P J e r j d L G=>?_);have v:=d.toSetAt;have R:p.get? l=p5 ol:=(r.2 l (To C)).trans B;refine Ss (TQ j d.hd v.fits ?_);dsimp only;rw[b.size] at G;have F:(e.led&&tl.led)=tl.led:=by rw[d.led,Sl.led,jam]
  have pl:(e.plain&&tl.plain)=tl.plain:=by rw[d.pl,Sl.pl,jam]
  have z:esl.size<=sizeLine:=by rw[b.size,T8];lia
  unfold SetTable.road;rw[if_neg (by rw[L];decide)]
  by_cases c:(e.mask==tl.mask&&tl.dummies.isEmpty)=S1
  ·rw[if_pos c];dsimp only;refine VH j d.hd ?_ z;have i:=Ts (W3 esl {tl with finger:=e.finger,led:=e.led&&tl.led,moves:=e.moves,plain:=e.plain&&tl.plain}) j (by rw[VX _ _ d.hd];rfl);rw[VX _ _ d.hd] at i;have T:=Sl.T;exact h _ _ _ _ _ xs (r.trans (Tx p a _)) i ⟨⟨d.ex,rfl,Sl.he,⟨T.pw,T.sz,T.sp,T.sd,T.lp,T.ld,T.dj,T.fl,T.rc⟩,F.trans Sl.led,pl.trans Sl.pl,Sl.nd⟩,Sl.f5⟩ (.refl _)
  ·rw[if_neg c];dsimp only;obtain⟨q,K,m,M⟩:=d.T.pw;obtain⟨f,g,U,H,N,I⟩:=Eo b K m M e.finger e.moves G;rw[F,pl,U];dsimp only;rw[I,bne_self_eq_false];simp only[SW,if_false];refine Ss (Sv ?_);dsimp only;refine VH j d.hd ?_ (by nofun)
   have i:=Ts (W3 (g.filterMap (esl[·]?)) ⟨e.mask,f, #[],e.finger,tl.led,e.moves,tl.plain⟩) j (by rw[VX _ _ d.hd];rfl);rw[VX _ _ d.hd] at i;exact h _ _ _ _ _ _ (r.trans (Tx p a _)) i (N _ _ d.ex rfl) (i5 H)
end
open PySem PySem.W PyProof.Rows PySem.Builtin
section
variable {A:Tr}{s:Sx}{a:Addr}{o:Obj}{xs:fT}{k:List Int}
theorem iw {h h':Heap}(x:(KI prog w).is h k b)(e: ∀o,h.get? b=p5 o->h'.get? b=p5 o):(KI prog w).is h' k b:=by
 obtain⟨o,items,n,a,r⟩:=x;exact⟨o,items,n,e o a,r⟩
theorem o9 {h:Heap}(x:(KI prog w).is h k b)(c:h.get? a=p5 o)(f:o.cls=.type "set"):b≠a:=λe=>by
 obtain⟨o',items,n,g,d,_⟩:=x;lia
theorem JS {h h':Heap}(x:sK prog w h xs)(c:h.get? a=p5 o)(d:o.cls=.type "set")(b:Tw a h h'):sK prog w h' xs:=λz hz=>iw (x z hz) λo' e=>(b.2 _ (o9 (x z hz) c d)).trans e
theorem oA(a:s.TypeIs T "set")(h:Q S1 s):SL (model prog w) A (Frozenset.isAnySet T) Q E s:=by
 unfold Frozenset.isAnySet;refine Ss (V1 a Zy ?_);exact Sv h
theorem LO {α:Type}{l:List α}(h:l.Nodup){i j:Nat}(a:i<l.length)(b:j<l.length)(e:l[i]=l[j]):i=j:=by
 rcases VF i j with q|q|q
 ·exact absurd e (Ui.mp h i j a b q)
 ·exact q
 ·exact absurd e.symm (Ui.mp h j i b a q)
structure Tog(K0 P:List (List Int))(zs:fT):Prop where
 nd:(zs.map (·.1)).Nodup
 mem: ∀k,k∈zs.map (·.1)↔(k∈K0/\k∉P)\/(k∈P/\k∉K0)
theorem Tog.out{zs:fT}(T:Tog K0 P zs){k:List Int}(t:k∉P){c:Addr}(p:zs[i]? =p5 (k,c)):Tog K0 (P++[k]) (zs.eraseIdx i):=by
 have b:k∈zs.map (·.1):=SY.mpr ⟨_,Tj p,rfl⟩;have q:k∈K0:=by
  rcases(T.mem k).mp b with h|h
  ·nofun
  nofun
 have g:(zs.eraseIdx i).map (·.1)=(zs.map (·.1)).eraseIdx i:=(mn _ _ _).symm;have n:(zs.map (·.1))[i]? =p5 k:=by nofun
 have d:i<(zs.map (·.1)).length:=by
  rcases jfq i (zs.map (·.1)).length with h|h
  ·omega
  nofun
 refine⟨by rw[g];exact V8 (Vx _ _) T.nd,λa=>?_⟩;rw[g];have r: ∀a,a∈(zs.map (·.1)).eraseIdx i↔a∈zs.map (·.1)/\a≠k:=λa=>by
  rw[List.mem_eraseIdx_iff_getElem];have m:(zs.map (·.1))[i]=k:=by grind
  constructor
  ·rintro⟨j,l,f,rfl⟩;refine⟨Zb _,λe=>f ?_⟩;exact LO T.nd l d (e.trans m.symm)
  ·rintro⟨o,s⟩;obtain⟨j,l,rfl⟩:=Vn o;lia
 rw[r,T.mem,Tf,Th]
 by_cases e:a=k
 ·lia
 ·simp[e]
theorem Tog.inn{zs a:fT}(T:Tog K0 P zs){k:List Int}{c:Addr}(g:k∉P)(d:k∉zs.map (·.1))(p:a.Perm (zs++[(k,c)])):Tog K0 (P++[k]) a:=by
 have b:(a.map (·.1)).Perm (zs.map (·.1)++[k]):=by have:=p.map (·.1);nofun
 have f:k∉K0:=λh=>d ((T.mem k).mpr (.inl ⟨h,g⟩))
 refine⟨b.nodup_iff.mpr ?_,λi=>?_⟩
 ·rw[TX]
  exact⟨T.nd,by simp,λx j y l=>by
   grind⟩
 ·rw[b.mem_iff,Tf,Th,T.mem,Tf,Th]
  by_cases e:i=k
  ·nofun
  ·simp[e]
theorem K7(id:String){ys:fT}(ne:a≠l)(O:s.heap.get? a=p5 o)(S:de w o es ep t xs)(hE:sK prog w s.heap xs)(K:s.heap.get? l=p5 ol)(Sl:de w ol esl epl tl ys)(r:sK prog w s.heap ys)
 (hu:A.units<Tq) (hn:xs.length+ys.length<=1000)
 (h: ∀h' o' f j t' zs,Tw a s.heap h'->h'.get? a=p5 o'->de w o' f j t' zs->Tog (xs.map (·.1)) (ys.map (·.1)) zs->(∀z∈zs,z∈xs\/z∈ys)->Q Unit.unit {s with heap:=h'}):SL (model prog w) A (Frozenset.symmetricDifferenceUpdate id a (.ref l)) Q E s:=by
 have d:=Sl.toSetAt;have H:=SetAt.ty K d;unfold Frozenset.symmetricDifferenceUpdate;rw[if_neg (by simpa using To ne)];dsimp only;refine Ss (jaR H ?_);rw[if_neg ()];refine Ss (oA H ?_);rw[if_pos rfl];refine Ss (Sv ?_);unfold Frozenset.addrOf;refine Ss (Sv ?_);refine Ss (Xo K Sl.hd d.fits ?_);refine TM ?_
 refine Ss ?_
 unfold setWalkUnseen;refine Ss (TQ K Sl.hd d.fits ?_);dsimp only;refine Ss (dq ?_);rw[if_pos (by rw[Sl.led,Sl.pl];simp[gc])];refine xX K d ?_
 have wp:=l5 w l epl esl;rw[Sl.he] at wp;obtain⟨us,pu,eu⟩: ∃us:fT,us.Perm ys/\(gD w l epl esl).toList=us.map xt:=by
  have key: ∀(m:List (Int×Sw)) (zs:fT),m.Perm (zs.map xt)-> ∃us:fT,us.Perm zs/\m=us.map xt:=λm zs hp=>by
   generalize G:zs.map xt=q at hp
   induction hp generalizing zs with
   |nil=>nofun
   |cons x _ ih=>
    cases zs with
    |nil=>nofun
    |cons z zs=>
     rw[SD] at G;obtain⟨h1,b⟩:=Y1 G;obtain⟨us,u1,u2⟩:=ih zs b;exact⟨z::us,u1.cons z,by nofun⟩
   |swap x y l=>
    cases zs with
    |nil=>nofun
    |cons z zs=>cases zs with
     |nil=>nofun
     |cons z2 zs=>
      rw[SD,SD] at G;obtain⟨h1,b⟩:=Y1 G;obtain⟨h3,h4⟩:=Y1 b;exact⟨z2::z::zs,.swap z z2 zs,by nofun⟩
   |trans _ _ Z ih2=>
    obtain⟨us,u1,u2⟩:=ih2 zs G;obtain⟨vs,v1,v2⟩:=Z us u2.symm;exact⟨vs,v1.trans u1,v2⟩
  nofun
 have ndu:(us.map (·.1)).Nodup:=(pu.map (·.1)).nodup_iff.mpr Sl.nd;have n:o.cls=.type "set":=S.ex.1;refine Ss (jaK _ (λv _ st=> ∃(P p:fT) (h':Heap) (o':Obj) (f:Array (Int×Sw)) (j:Nat) (t':T4) (zs:fT),v=p.map xt/\us=P++p/\st={s with heap:=h'}/\Tw a s.heap h'/\h'.get? a=p5 o'/\de w o' f j t' zs/\Tog (xs.map (·.1)) (P.map (·.1)) zs/\(∀z∈zs,z∈xs\/z∈P)/\zs.length<=xs.length+P.length) (λ_ st=>SL (model prog w) A (pure Unit.unit) Q E st) ?turn ?fin _ _ ⟨[],us,s.heap,o,es,ep,t,xs,eu,rfl,rfl,WB a s.heap,O,S,⟨S.nd,λk=>by simp⟩,λz hz=>.inl hz,by simp⟩)
 case fin=>
  rintro _ st ⟨P,p,h',o',f,j,t',zs,N,Y,rfl,u,g,U,T,hm,_⟩;have:p=[]:=List.map_eq_nil_iff.mp N.symm;subst this;rw[Uv] at Y;subst Y;refine Sv (h _ _ _ _ _ zs u g U ⟨T.nd,λk=>by rw[T.mem,(pu.map (·.1)).mem_iff]⟩ λz hz=>?_);grind
 case turn=>
  rintro x v _ st ⟨P,p,h',o',f,j,t',zs,N,Y,rfl,u,g,U,T,hm,hlen⟩;cases p with
  |nil=>nofun
  |cons y p=>
   rw[SD] at N;obtain⟨hx,hr⟩:=Y1 N;subst hx;have ylen:us.length=ys.length:=pu.length_eq;have lP:P.length+1<=ys.length:=by
    grind
   have L:y∈ys:=pu.mem_iff.mp (by nofun);have J:y.1∉P.map (·.1):=λG=>by
    grind
   have kk:(KI prog w).is h' y.1 y.2:=iw (r y L) λF e=>(u.2 _ (o9 (r y L) O n)).trans e
   have E2:sK prog w h' zs:=λz hz=>by
    rcases hm z hz with q|q
    ·exact iw (hE z q) λF e=>(u.2 _ (o9 (hE z q) O n)).trans e
    ·have:z∈ys:=pu.mem_iff.mp (by nofun);exact iw (r z this) λF e=>(u.2 _ (o9 (r z this) O n)).trans e
   have X:h'.get? l=p5 ol:=(u.2 l (To ne)).trans K
   show SL _ _ (do
    WZ [Tc y.2] (do
     if !(<-Y4 a (.ref y.2) (th y.1)) then do
      let _ <-Zl a (.ref y.2) (th y.1)
      pure Unit.unit
     else pure Unit.unit)
    Frozenset.unchanged id l epl
    pure (ForInStep.yield PUnit.unit)) _ _ _
   have done: ∀(b:Heap),Tw a h' b-> ∀R:ForInStep PUnit->Sx->Prop,R (.yield PUnit.unit) {s with heap:=b}->SL (model prog w) A (do
    Frozenset.unchanged id l epl
    pure (ForInStep.yield PUnit.unit)) R E {s with heap:=b}:=λb B R hR=>by
    have hl3:b.get? l=p5 ol:=(B.2 l (To ne)).trans X;unfold Frozenset.unchanged;refine Ss ?_
    refine Ss (Xo hl3 Sl.hd d.fits ?_);rw[if_neg (by simp)];exact Sv (Sv hR)
   refine Ss (TM ?_);refine Ss (nr (s:={s with heap:=h'}) g U E2 hu kk ⋯ (λnm=>?_) λM b F D C t2 I B W q3 V=>?_)
   ·rw[if_pos (show(!Pa)=S1 from rfl)];refine Ss (vb (s:={s with heap:=h'}) g U E2 hu kk (by grind) (λM=>absurd M nm) λnm2 b F D C t2 I B W q3 V=>?_);refine Sv (done b B _ ⟨P++[y],p,b,F,D,C,t2,I,hr,by nofun,rfl,u.trans B,W,q3,by rw[Tb];exact T.inn J nm V,λz hz=>?_,by rw[V.length_eq,S5,S5,UE];lia⟩);grind
   ·rw[if_neg (show¬(!S1)=S1 by decide)];obtain⟨i,c,hi,rfl⟩:=V;refine Sv (done b B _ ⟨P++[y],p,b,F,D,C,t2,_,hr,by nofun,rfl,u.trans B,W,q3,by rw[Tb];exact T.out J hi,λz hz=>?_,Tz (Y5 _ _) (by grind)⟩);grind[Y0]
end
set_option maxHeartbeats 3200000
theorem kU:Slot "set" (dunder Operator.BitXor.info.2) "set.__xor__":=.of (owner:="set") (n:="__xor__") (by rfl) (by rfl) (by rfl) (by rfl) (by first|exact .inl (by rfl)|exact .inr (by decide+kernel)) Zy
theorem qJ:jdn table "set.__xor__"=p5 Vc.«frozenset.__xor__»:=Z9 (id':="frozenset.__xor__") (by kernel_rfl) rfl (by decide+kernel) (by kernel_rfl)
theorem ut(a b:Sw):argsOk "set.__xor__" ⟨[a,b],[]⟩:=by rfl
theorem uj:fillsNumberSlot (.type "set") "xor"=pure true:=by
 rfl
theorem NR(l r:Sw):Vc.«frozenset.__xor__» ⟨[l,r],[]⟩=(do
 let(self,other) <-Frozenset.slot1 "__xor__" ⟨[l,r],[]⟩
 let(l,r):=if Pa then(other,self) else(self,other)
 if !(<-Frozenset.isAnySet l<&&>Frozenset.isAnySet r) then
  rule s!"frozenset.{"__xor__"}.declined"
  return<-ret .notImplemented
 let b <-Frozenset.addrOf l
 let v <-(do
  let a <-Frozenset.newFrom s!"frozenset.{"__xor__"}" (<-Frozenset.baseOf b) r
  let c <-Frozenset.addrOf a
  WZ [a] (Frozenset.symmetricDifferenceUpdate s!"frozenset.{"__xor__"}" c (.ref b))
  return a:Sem Sw)
 ret v):=rfl
section
variable {A:Tr}{xs ys:fT}
theorem Gf{m or:Obj}(D:s.heap.get? l=p5 m)(Sl:de w m esl epl tl xs)(v:sK prog w s.heap xs)(x:s.heap.get? r=p5 or)(d:de w or esr epr tr ys)(u:sK prog w s.heap ys)
 (hu:A.units+1<Tq) (hn:xs.length+ys.length<=1000)
 (h: ∀h' o' y C t' zs,Tw s.heap.objs.size (s.heap.push (aT w)) h'->h'.get? s.heap.objs.size=p5 o'->de w o' y C t' zs->Tog (ys.map (·.1)) (xs.map (·.1)) zs->(∀z∈zs,z∈ys\/z∈xs)->Q (.ref s.heap.objs.size) {s with heap:=h'}):
 SL (model prog w) A (Vt .BitXor (.ref l) (.ref r)) Q E s:=by
 have a:=SetAt.ty D Sl.toSetAt;have g:=SetAt.ty x d.toSetAt;refine wpAny_binaryOp_same a g uj kU ?_
 refine TU kU a qJ ?_ (ut _ _)
 rw[NR];unfold Frozenset.slot1;have V:jdo "__xor__" 1 ⟨[Tc l,Tc r],[]⟩=pure (.ref l,[.ref r]):=rfl;rw[V,pure_bind];dsimp only;rw[pure_bind];dsimp only;rw[if_neg ()];dsimp only;refine Ss ?_
 refine Ss (oA a ?_);refine oA g ?_
 rw[if_neg ()];unfold Frozenset.addrOf;rw[pure_bind];refine Ss ?_
 unfold Frozenset.baseOf;refine Ss ?_
 refine Ss (V1 a Zy ?_);rw[if_pos rfl];refine Sv ?_
 unfold Frozenset.newFrom;refine Ss ?_
 refine Ss (KP ?_);unfold Frozenset.addrOf;rw[pure_bind];have J:(s.heap.push (aT w)).get? s.heap.objs.size=p5 (aT w):=SC _ rfl;have b:(s.heap.push (aT w)).get? r=p5 or:=Sy _ x;have F:(s.heap.push (aT w)).get? l=p5 m:=Sy _ D;have G:s.heap.objs.size≠r:=Ux (SH x);have c:s.heap.objs.size≠l:=Ux (SH D);have f:jas {s with heap:=s.heap.push (aT w)} (.ref r) "set":=SetAt.ty (s:={s with heap:=s.heap.push (aT w)}) b d.toSetAt;refine Ss (TM ?_);unfold Frozenset.updateFrom;refine Ss (oA f ?_);rw[if_pos rfl];unfold Frozenset.addrOf Frozenset.merge;rw[pure_bind];refine Ss (Xo b d.hd d.toSetAt.fits ?_);refine E7 (s:={s with heap:=s.heap.push (aT w)}) G J (oS w) rfl b d ⋯ λi o1 N O t1 B o P R j=>?_
 refine Sv ?_
 rw[pure_bind];have p:i.get? l=p5 m:=(o.2 l c.symm).trans F;have X:(aT w).cls=.type "set":=rfl;have E0: ∀us:fT,sK prog w s.heap us->sK prog w i us:=λus S=>JS (λz hz=>iw (S z hz) λo' e=>Sy _ e) J X o
 have Y:sK prog w i B:=λz hz=>E0 ys u z (j.mem_iff.mp hz)
 refine Ss (TM ?_);refine K7 (s:={s with heap:=i}) _ c P R Y p Sl (E0 xs v) (show A.in1.units<Tq by omega) (by rw[j.length_eq];lia) λK U t H M n L W Z I T=>?_
 refine Sv (Sv ⟨_,rfl,(λe=>by nofun),h K U t H M n (o.trans L) W Z ⟨I.nd,λk=>by rw[I.mem,(j.map (·.1)).mem_iff]⟩ λz hz=>?_⟩);rcases T z hz with q|q
 ·exact .inl (j.mem_iff.mp q)
 ·exact .inr q
end
section
variable {A:Tr}{St:Nat->Sx->Prop}
theorem G4(W:WalksS prog w A.in1 I fp u G n P St)(S:Addr)(q:S∉fp)(ks:List (List Int×Addr))(hk:ks.length=n)(nd:(ks.map (·.1)).Nodup)(hn:n<=1000)(hu:A.in1.units<Tq)
 (xi: ∀i v,P i v->v=.ref (ks.getD i ([],0)).2) (hw: ∀z∈ks,z.2∉u):
 ∀(k i:Nat) (s:Sx),n-i=k->i<=n->St i s->
  (∀z∈ks,(KI prog w).is s.heap z.1 z.2)->
  ∀(o:Obj) (es:Array (Int×Sw)) (ep:Nat) (t:T4) (xs:fT),s.heap.get? S=p5 o->de w o es ep t xs->xs.Perm (ks.take i)->
  (∀s' o' l m t' c,Moved (S::u) G s s'->s'.heap.get? S=p5 o'->de w o' l m t' c->c.Perm ks->R (.ok (.ret .none)) s')->
  Vy (model prog w) A (.builtin "set.update.loop" ⟨[.ref S,.ref I],[]⟩) R s:=by
 have C:S∉u:=λh=>q (W.sub _ h)
 have d: ∀b∈u,b∈S::u:=λb H=>SI _ H
 intro k
 induction k with
 |zero=>
  intro i s X hi f hE o es ep t xs T J B hR;have N:i=n:=by grind
  subst N;refine U3 Zf ?_
  rw[UT Xb _];show SL _ A.in1 (Wa (.ref I)>>=_) _ _ s;refine Ss (W.done s _ _ f λs' p=>?_);show SL _ A.in1 (ret Tn) _ _ s';exact Sv (hR s' o es ep t xs (p.mono d) (p.heap S _ C T) J (by grind))
 |succ k ih=>
  intro i s X hi f hE o es ep t xs T J B hR;have E:i<n:=by grind
  refine U3 Zf ?_
  rw[UT Xb _];show SL _ A.in1 (Wa (.ref I)>>=_) _ _ s;refine Ss (W.item i s _ _ E f λv s' hP x p=>?_);have hv:=xi i v hP;subst hv;have hz:ks.getD i ([],0)∈ks:=by
   rw[WF,SJ (by nofun)];simp
  have r:ks[i]? =p5 (ks.getD i ([],0)):=by rw[WF,SJ (by nofun)];rfl
  generalize hzz:ks.getD i ([],0)=z at hz r;have D:s'.heap.get? S=p5 o:=p.heap S _ C T;have a: ∀z∈ks,(KI prog w).is s'.heap z.1 z.2:=λy g=>iw (hE y g) λF e=>p.heap _ _ (hw y g) e
  have M:sK prog w s'.heap xs:=λy g=>a y (List.mem_of_mem_take (B.mem_iff.mp g))
  have Tm:z.1∉xs.map (·.1):=λV=>by
   have:=(B.map (·.1)).mem_iff.mp V;rw[jdL] at this;obtain⟨j,hj,e⟩:=Vn this;rw[jbs] at e;have hj2:j<i:=by simp at hj;nofun
   have U:i<(ks.map (·.1)).length:=by nofun
   have e2:(ks.map (·.1))[i]=z.1:=by
    nofun
   exact absurd (LO nd (by grind) U (e.trans e2.symm)) ⋯
  have Q:o.cls=.type "set":=J.ex.1;show SL _ A.in1 (WZ [Tc z.2] (setAdd S (.ref z.2))>>=_) _ _ s';refine Ss (TM ?_);unfold setAdd;refine TM ?_
  refine Ss ((KI prog w).pyHash (show(KI prog w).room A.in1 from hu) (a z hz) ?_);rw[As];refine vb (s:={s' with toks:=s'.toks+(KI prog w).draws z.1}) D J M hu (a z hz) (by rw[B.length_eq,Y6];lia) (λV=>absurd V Tm) λ_ h' o' l m t' c Z g2 g3 g4=>?_
  refine Sv ⟨YY Xb _,ih (i+1) _ (by grind) E (W.frame _ s' _ _ x (Xy _ _) λb H F e=>?_) (λy g=>?_) o' l m t' c g2 g3 ?_ λY F O L t2 K ST q1 q2 q3=>?_⟩
  ·rw[Z.2 b (λh:b=S=>q (by nofun))];exact e
  ·exact iw (a y g) λF e=>(Z.2 _ (o9 (a y g) D Q)).trans e
  ·refine g4.trans ?_
   rw[jdt,r];exact List.Perm.append_right _ B
  ·refine hR Y F O L t2 K (Moved.trans W.gtrans ((p.mono d).then_heap (Xy _ _) λb o3 H e=>?_) ST) q1 q2 q3;rw[Z.2 b (λh:b=S=>H (by rw[h];exact SM))];exact e
end
section
variable {A:Tr}
theorem Dk{items:Array Sw}{ks:List (List Int×Addr)}(hh:A.handled=Sr)(hl:s.heap.IsList l items)(hi:items.toList=ks.map λz=>Tc z.2)(nd:(ks.map (·.1)).Nodup)(hn:ks.length<=1000)(hu:A.units+10<Tq)(hE: ∀z∈ks,(KI prog w).is s.heap z.1 z.2)
 (h: ∀(h':Heap) (tk:Nat) (o':Obj) (a:Array (Int×Sw)) (d:Nat) (t':T4) (xs:fT),h'.get? s.heap.objs.size=p5 o'->de w o' a d t' xs->xs.Perm ks->(∀b o,b<s.heap.objs.size->s.heap.get? b=p5 o->h'.get? b=p5 o)->Q (.ref s.heap.objs.size) {s with heap:=h',toks:=tk}):
 SL (model prog w) A (call (.type "set") [.ref l]) Q E s:=by
 obtain⟨c,tl,hmro⟩:=Um.mro;have M:=Um.made;have Tm:=Um.sub;refine jcP (XX ?_);show SL _ _ (callAny (.type "set") _) _ _ _;refine Sv ⟨jaC _ (by decide+kernel),U3 jbq ?_⟩;rw[jaD (ZS "set" [.ref l] []) rfl];have h1:=Um.notType;have h2:=Um.canCreate;have hct:=F.typeCall_set_1 (.ref l)
 repeat (any_goals (first|assumption|wp_step))
 refine Vo (xU (as:=[.ref l]) (E:=E) (F.newCall_set_1 (.ref l)) (Q₁:=λobj j=>obj=.ref s.heap.objs.size/\j={s with heap:=s.heap.push (aT w)}) ⟨rfl,rfl⟩) λr j Y=>?_
 cases r with
 |error e=>exact Y
 |ok fl=>
  cases fl with
  |ret obj=>
   obtain⟨rfl,rfl⟩:=Y;have p:(s.heap.push (aT w)).get? s.heap.objs.size=p5 (aT w):=SC _ rfl;have hS:(s.heap.push (aT w)).get? s.heap.objs.size=p5 {cls:=.type "set",dict:=Sr,data:=.set #[] 0 (.fresh 0 0 (!gc w))}:=p;have hT:jas {s with heap:=s.heap.push (aT w)} (.ref s.heap.objs.size) "set":=⟨_,hS,rfl⟩
   have hli:=Um.init.lookup;have hbi:=Um.init.bind (.ref s.heap.objs.size)
   repeat (any_goals (first|assumption|wp_step))
   refine Vo (jaa (R:=wants (λr g=>r=.none/\ ∃h' tk o' a d t' xs,g={s with heap:=h',toks:=tk}/\h'.get? s.heap.objs.size=p5 o'/\de w o' a d t' xs/\xs.Perm ks/\
    (∀b o,b<s.heap.objs.size->s.heap.get? b=p5 o->h'.get? b=p5 o)) E) Um.init.plain jbN (check_set_init_1 hT ?_)) λt g n=>?_
   ·obtain⟨ol,x,u,X,B⟩:=hl;obtain⟨Z,m,T,f⟩:=ol;simp only at u B;subst u;subst B;have y:(s.heap.push (aT w)).get? l=p5 {cls:=.type "list",dict:=m,data:=.seq items X,slots:=f}:=Sy _ x;have ST:=F.sub_list_set;have hslf:=F.sub_list_frozenset;have hne:(jax "list"==jax "dict")=false:=by rfl
    have C:(s.heap.push (aT w)).IsList l items:=⟨_,y,rfl,X,rfl⟩
    unfold Vc.«set.__init__» noKeywords jcq;generalize P:YS=PI
    wp_walk
    subst P;refine YH C ?_
    refine Ss (Z0 ?_);have I:l<s.heap.objs.size:=SH x;have H:A.in1.in1.in1.handled=none:=by omega
    have q:l≠(s.heap.push (aT w)).objs.size:=by
     rw[UY];exact S7 (YN I)
    have G:s.heap.objs.size∉ [(s.heap.push (aT w)).objs.size,l]:=by
     rw[UY];grind
    have zi:ks.length=items.size:=by
     have:=congrArg Ua hi;grind
    have U: ∀z∈ks,z.2<s.heap.objs.size:=λz hz=>by
     obtain⟨o,_,_,e,_⟩:=hE z hz;exact SH e
    refine G4 ((jhL H _ l q items).toS) s.heap.objs.size G ks zi nd (by nofun) (show A.in1.in1.in1.units<Tq by
     have a1:A.in1.in1.in1.units<=A.units+3:=SB _
     lia) (λi v hv=>?_) (λz hz=>?_) (items.size-0) 0 _ (by simp) (Ur _)
     ⟨⟨_,SC _ rfl,rfl,rfl⟩,(C.push _)⟩ (λz hz=>iw (hE z hz) λo e=>Sy _ (Sy _ e)) _ _ _ _ [] (Sy _ p) (oS w) (.refl _) ?hR
    ·have:items.toList[i]? =p5 v:=by rw[Tk];exact hv
     grind
    ·have:=U z hz;simp only[S6,Th,WM,or_false];rw[UY];exact S7 (YN this)
    case hR=>
     intro s' o' a d t' S D J K N;obtain⟨h',g',d',V,L⟩:=s';have eg:g'=s.gens:=D.gens;have ed:d'=s.drawn:=D.drawn;have eo:L=s.os:=D.os;subst eg;subst ed;subst eo;show SL _ _ _ _ _ _;refine Sv ?_
     show SL _ _ (ret Tn) _ _ _;refine Sv ⟨rfl,h',V,o',a,d,t',S,rfl,J,K,N,λb o W e=>?_⟩;have hb1:b≠s.heap.objs.size:=S7 W;have hb2:b≠(s.heap.push (aT w)).objs.size:=by
      rw[UY];exact S7 (YN W)
     exact D.heap b o (by nofun) (Sy _ (Sy _ e))
   ·cases t with
    |error e=>omega
    |ok k=>
     cases k with
     |ret r=>
      obtain⟨rfl,h',tk,o',a,d,t',xs,rfl,J,K,N,O⟩:=n
      repeat (any_goals (first|assumption|wp_step))
      exact h _ _ _ _ _ _ _ J K N O
     |_=>omega
  |_=>omega
end
set_option maxHeartbeats 1000000
section
variable {X:Cx}
def NZ(K:SA):List V->Hp->VK->Prop:=λxs H Q=> ∃l ks,xs=[.ref l]/\SqL K H l (lv ks)/\(∀z∈ks,SqT K H z.2 (z.1.map V.int))/\(ks.map (·.1)).Nodup/\ks.length<=1000/\ ∀a zs,H a=Sr->zs.Perm ks->Q (.ref a) (aW H a (.tst zs))
theorem qA(C:X.calm=S1)(O:X.A.units+10<Tq):cO X (.type "set") (NZ X.K):=by
 intro S s σ H xs us Q I r h;obtain⟨l,ks,rfl,x,i,j,t,q⟩:=h;obtain⟨u,rfl,N⟩:=eQ r;cases N;obtain⟨c,r,L,U⟩:=I.list x;have T:c=ks.map λz=>Tc z.2:=by
  have R:=qk ks;have: ∀(vs:List V) (a b:List Sw),(∀v∈vs,∃p,v=V.ref p)->cc vs a->cc vs b->a=b:=λvs=>by
   induction vs with
   |nil=>intro a b _ f d;cases f;cases d;rfl
   |cons v vs y=>
    intro a b hv f d;cases f with
    |cons P g=>cases d with
     |cons D m=>
      obtain⟨p,rfl⟩:=hv v SM;cases P;cases D;rw[y _ _ (λw hw=>hv w (SI _ hw)) g m]
  exact this _ _ _ (λv hv=>by grind) r R
 refine Dk (ks:=ks) (items:=c.toArray) (I.ok.hd C) ?_ (by omega) j t O (λz hz=>kI I (i z hz)) λh' tk o' E G t' zs F M B k=>?_
 ·obtain⟨o,n,e,J,W,g⟩:=L;exact⟨o,e,J,n,by first|omega|exact g⟩
 ·exact⟨.ref s.heap.objs.size,_,I.laid (t':=tk) (λb o e=>k b o (SH e) e) (SB _) (show ci X.prog X.w _ _ _ (.tst zs) from⟨_,_,_,_,F,M⟩),rfl,q _ _ (I.hok.fresh (SB _)) B⟩
def P4(K:SA):R2:=λx y H Q=> ∃l r xs ys,x=.ref l/\y=.ref r/\H l=p5 (.tst xs)/\H r=p5 (.tst ys)/\(∀z∈xs,SqT K H z.2 (z.1.map V.int))/\(∀z∈ys,SqT K H z.2 (z.1.map V.int))/\xs.length+ys.length<=1000/\
 ∀a zs,H a=Sr->Tog (ys.map (·.1)) (xs.map (·.1)) zs->(∀z∈zs,z∈ys\/z∈xs)->Q (.ref a) (aW H a (.tst zs))
theorem JG(F:X.A.units+1<Tq):kZ X (Vt .BitXor) (P4 X.K):=by
 intro M s σ H x y v u Q I D E h;obtain⟨l,r,xs,ys,rfl,rfl,C,p,f,k,i,q⟩:=h;cases D;cases E;obtain⟨O,G,z,L,d,Sl⟩:=(show ci X.prog X.w H s.heap l (.tst xs) from I.hok l _ C)
 obtain⟨or,J,j,N,a,n⟩:=(show ci X.prog X.w H s.heap r (.tst ys) from I.hok r _ p)
 refine Gf d Sl (pg I f) a n (pg I k) F i λh' o' t B t' zs b g S T m=>?_
 refine⟨.ref s.heap.objs.size,_,I.laid (t':=s.toks) (λc o e=>?_) (SB _) (show ci X.prog X.w _ _ _ (.tst zs) from⟨_,_,_,_,g,S⟩),rfl,q _ _ (I.hok.fresh (SB _)) T m⟩;exact(b.2 c (S7 (SH e))).trans (Sy _ e)
end
theorem pi {K:SA}: ∀ {vs:List V} {ks:List (List Int)},Reps K (vw H hid) vs (ks.map a7)-> ∃xs:fT,vs=lv xs/\xs.map (·.1)=ks/\Reps K (vw H hid) (lv xs) (yG xs)
 |vs,[],r=>by cases r;exact⟨[],rfl,rfl,.nil⟩
 |vs,k::ks,r=>by
  rw[SD] at r;cases r with
  |cons r a=>
   obtain⟨xs,rfl,rfl,c⟩:=pi a;obtain⟨b,z,rfl,_⟩:=(show eb K H (vw H hid) _ (.tup (k.map D.int)) from .inl r).tup;exact⟨(k,b)::xs,rfl,rfl,.cons r c⟩
def nv:List D->Option (List (List Int))
 | []=>p5 []
 | .tup ds::r=>(cq ds).bind λk=>(nv r).map (k:: ·)
 |_=>Sr
theorem qo: ∀ {ds:List D} {ks:List (List Int)},nv ds=p5 ks->ds=ks.map a7
 | [],ks,h=>by cases h;rfl
 | .tup es::r,ks,h=>by
   obtain⟨k,b,h⟩:=Sz.mp (show(cq es).bind _=_ from h);obtain⟨t,a,rfl⟩:=S0.mp h;rw[SD,<-qo a,dv b];rfl
 | .non::_,_,h| .bl _::_,_,h| .int _::_,_,h| .str _::_,_,h| .lst _::_,_,h| .scr _::_,_,h| .dct _ _::_,_,h=>by cases h
theorem Jp {A:Tr}(a:fq k A):A.units+10<cLine:=SZ (Vl (by simp:10<=64) _) a.units
def gK(a b:List (List Int)):List (List Int):=a.filter (λk=>decide (k∉b))++b.filter (λk=>decide (k∉a))
theorem oF {a b:List (List Int)}(c:a.Nodup)(d:b.Nodup):(gK a b).Nodup:=by
 unfold gK;rw[TX];refine⟨c.filter _,d.filter _,λx f y g e=>?_⟩;nofun
theorem la{k:List Int}:k∈gK a b↔(k∈a/\k∉b)\/(k∈b/\k∉a):=by
 simp[gK]
theorem FF {a b:List (List Int)}{zs:fT}(T:Tog b a zs)(c:a.Nodup)(d:b.Nodup):(zs.map (·.1)).Perm (gK a b):=
 (TC T.nd (oF c d)).mpr λk=>by rw[T.mem,la];grind
def Oz(i j:Nat):FE:=λρ=>match ρ[i]?,ρ[j]? with
 |some (.v (.lst c)),some (.v (.lst d))=>(nv c).bind λb=>(nv d).bind λa=>if(b.Nodup/\a.Nodup)/\b.length+a.length<=1000/\(gK b a).length<64/\(∀k∈b,k≠[])/\(∀k∈a,k≠[]) then p5 (.lst ((aU aS (gK b a)).map a7)) else Sr
 |_,_=>Sr
theorem Fo {K:SA}(h:Rep K (vw H hid) v (.lst ds)): ∃l xs,v=.ref l/\SqL K H l xs/\Reps K (vw H hid) xs ds:=by
 obtain⟨a,xs,rfl,c,b⟩:=(show eb K H (vw H hid) v (.lst ds) from .inl h).lst;exact⟨a,xs,rfl,c,b⟩
section
variable {X:Cx}{p p1 p3:Pos}
theorem E8(i j:Nat)(o:X.calm=S1)(hu:X.A.units+10<Tq)(hm:X.mg "sorted"=Sr)(t:X.mg "set"=Sr)(hN:X.N[i]? =p5 x:=by rfl)(S:X.N[j]? =p5 y:=by rfl)(hv':lW X.env.scope x:=by first|exact TL rfl|exact Te (TL rfl)|exact Te (Te rfl))(U:lW X.env.scope y:=by first|exact TL rfl|exact Te (TL rfl)|exact Te (Te rfl))(a:(x==("__debug__":Str))=false:=by decide)(Z:(y==("__debug__":Str))=false:=by decide)
 (hcd:(x==("__classdict__":Str))=false:=by decide) (u:(y==("__classdict__":Str))=false:=by decide) (hg:Gl X "sorted":=by rfl) (w:Gl X "set":=by rfl) (hv:T3 "sorted"=p5 (.builtin "sorted"):=by kernel_rfl) (F:T3 "set"=p5 (.type "set"):=by kernel_rfl)
 (B:SF [.Name x p2] X.env=(Pa,eval (.Name x p2) X.env)::SF [] X.env:=by rfl) (v:SF [.Name y p4] X.env=(Pa,eval (.Name y p4) X.env)::SF [] X.env:=by rfl) (s:SF [.BinOp (.Call (.Name "set" p1) [.Name x p2] [] q1) .BitXor (.Call (.Name "set" p3) [.Name y p4] [] q2) q3] X.env=(Pa,eval (.BinOp (.Call (.Name "set" p1) [.Name x p2] [] q1) .BitXor (.Call (.Name "set" p3) [.Name y p4] [] q2) q3) X.env)::SF [] X.env:=by rfl) (g: ∀G,(Ul G (SF [] X.env)).any (·.1)=false:=by intro _;rfl):
 DP X c .n (.Call (.Name "sorted" p) [.BinOp (.Call (.Name "set" p1) [.Name x p2] [] q1) .BitXor (.Call (.Name "set" p3) [.Name y p4] [] q2) q3] [] G) (Oz i j):=λhid ρ=>
 PE.imp (fS (lT o) hg hm hv (bn (D4 (JG ⋯) (fD (qA o hu) w t F (bn (pv i hN hv' a hcd) bW B) () (by rfl) B (g _)) (fD (qA o hu) w t F (bn (pv j S U Z u) bW v) () (by rfl) v (g _))) bW s) () (by rfl) s (g _)) λσ H Q hq_=>by
  obtain⟨sr,d,a,q⟩:=hq_;unfold Oz at a;split at a
  ·rename_i d1 d2 e1 e2
   obtain⟨k1,f1,a⟩:=Sz.mp a;obtain⟨k2,f2,a⟩:=Sz.mp a;split at a
   ·rename_i hc
    cases a;obtain⟨⟨J,E⟩,P,h64,W,Y⟩:=hc;have:=qo f1;subst this;have:=qo f2;subst this;obtain⟨v1,s1,r1⟩:=sr.sl i _ e1;obtain⟨v2,s2,r2⟩:=sr.sl j _ e2;obtain⟨l1,u1,rfl,g1,w1⟩:=Fo r1;obtain⟨l2,u2,rfl,g2,w2⟩:=Fo r2;obtain⟨L,rfl,rfl,y1⟩:=pi w1;obtain⟨I,rfl,rfl,y2⟩:=pi w2;rw[SO,SO] at P;have t1: ∀z∈L,SqT X.K H z.2 (z.1.map V.int):=λz hz=>kS (cx y1 z hz)
    have t2: ∀z∈I,SqT X.K H z.2 (z.1.map V.int):=λz hz=>kS (cx y2 z hz)
    refine⟨.ref l1,s1,l1,L,rfl,g1,t1,J,⋯,λM O n1 b=>?_⟩;have R:ab H (aW H M (.tst O)):=aJ n1 _;refine⟨.ref l2,s2,l2,I,rfl,ab.seq R g2,λz hz=>ab.seqT R (t2 z hz),E,⋯,λa2 z2 n2 e=>?_⟩;have S2:ab (aW H M (.tst O)) (aW (aW H M (.tst O)) a2 (.tst z2)):=aJ n2 _;have m:=R.trans S2;refine⟨M,a2,O,z2,rfl,rfl,S2 _ _ aA,aA,λz hz=>ab.seqT m (t1 z (b.mem_iff.mp hz)),λz hz=>ab.seqT m (t2 z (e.mem_iff.mp hz)),by rw[b.length_eq,e.length_eq];omega,λa3 r n3 T m3=>?_⟩;have S3:=aJ n3 (.tst r);have f:=m.trans S3;have C: ∀z∈r,z∈L\/z∈I:=λz hz=>(m3 z hz).elim (λh=>.inr (e.mem_iff.mp h)) λh=>.inl (b.mem_iff.mp h)
    have T':Tog (I.map (·.1)) (L.map (·.1)) r:=⟨T.nd,λk=>by rw[T.mem,(b.map (·.1)).mem_iff,(e.map (·.1)).mem_iff]⟩
    have P3:=FF T' J E;have l3:r.length<64:=by
     have:=P3.length_eq;nofun
    have rp: ∀z∈r,Rep X.K (vw H hid) (.ref z.2) (.tup (z.1.map D.int)):=λz hz=>(C z hz).elim (cx y1 z) (cx y2 z)
    refine⟨a3,r,rfl,aA,λz hz=>ab.seqT f (kS (rp z hz)),by omega,λz hz=>(C z hz).elim (λh=>W _ (T1 h)) λh=>Y _ (T1 h),λl ST P hm hk=>q _ _ (f.trans (aJ P _)) (fH P f ?_)⟩;have:(aU aS (gK (L.map (·.1)) (I.map (·.1)))).map a7=yG ST:=by
     rw[<-ji P3,<-hk,S4];rfl
    rw[this];exact iH λz hz=>(rp z (hm z hz)).mono (aC f)
   nofun
  nofun
end
open PySem PySem.W PySem.Spec PyProof.Rows
def Py:V->List V->Hp->VK->Prop:=λx vs H Q=> ∃l p xs y,x=.ref l/\vs=[y]/\H l=p5 (.nst p (.lst xs))/\xs.length<SU/\Q .non (aW H l (.nst p (.lst (xs++[y]))))
section
variable {X:Cx}
theorem Jm:Lh X "list.append" Py:=by
 intro c s σ H x vs v us Q I i k h;obtain⟨l,p,xs,y,rfl,rfl,j,hz,q⟩:=h;refine bB (dL c s σ (aW H l (.lst xs)) (.ref l) [y] v us (λz b=>z=.non/\b=aW H l (.lst (xs++[y]))) (I.unnest j) i k ⟨l,xs,y,rfl,rfl,aA,hz,rfl,Ay⟩) λw o a=>?_
 obtain⟨z,n,g,m,e,f⟩:=a;subst e f;refine⟨.non,aW H l (.nst p (.lst (xs++[y]))),?_,m,q⟩;have:=g.nest (d:=l) (p:=p) (u:=.lst (xs++[y])) aA trivial;rwa [Ay] at this
def R4(x:V)(H:Hp):Prop:= ∃d p xs,x=.ref d/\H d=p5 (.nst p (.lst xs))
variable {to:TE}{t:TA}{apos cpos:Pos}{id:String}{r:V->List V->Hp->VK->Prop}
def Rq(r:V->List V->Hp->VK->Prop)(to:TE)(t:TA):TE:=λσ H Q=>to σ H λx a=>R4 x a/\t σ a λxs b=>r x xs b Q
theorem Mt(g:Slot "list" name id)(j:jcU (.builtin id)=pure (.type "method_descriptor"))(F:Lh X id r)(M:PE X o to)(L:PA X (e::es) t)
 (c:UG o name X.env (eval o X.env)=eval o X.env:=by rfl)
 (f:((Ul cpos (SF (e::es) X.env)).all (λx=> !x.1)&&(XO cpos (V7 [] X.env)).all (λx=>x.1.isSome)
   &&Oo ((e::es).length+([]:List VI).length+(if([]:List VI).isEmpty then 0 else 1)<30))=true:=by rfl)
 (b:(apos.endLine==cpos.line)=true:=by rfl) (z:SF (e::es) X.env=(Pa,eval e X.env)::SF es X.env:=by rfl) (a:(Ul cpos (SF es X.env)).any (·.1)=false:=by rfl):
 PE X (.Call (.Attribute o name apos) (e::es) [] cpos) (Rq r to t):=by
 intro i s σ H Q I h;refine Zq c f b rfl (bB (M i s σ H _ I h) λv w k=>?_);obtain⟨x,l,m,q,ty,J⟩:=k;obtain⟨d,p,xs,rfl,D⟩:=ty;obtain⟨A,y⟩:=yB (m.unnest D) q (show Qp X.K "list" (.ref d) (aW l d (.lst xs)) from .inl ⟨rfl,xs,SqL.of aA⟩);refine⟨"list",id,VZ,g,j,A,y,?_⟩;have n:=L cpos i w σ l _ m J;rw[z] at n⊢;refine Vp (by show(Pa||(Ul cpos (SF es X.env)).any (·.1))=Pa;rw[a]<;>rfl) (WC ?_);exact bB n λus E ⟨vs,C,u,G,B⟩=>F i E σ C (.ref d) vs v us Q u q G B
end
open PySem PySem.Spec PyProof.Rows HT
theorem yd {α β:Type}: ∀l:List (α×β),(l.map (·.1)).zip (l.map (·.2))=l
 | []=>rfl
 |(a,b)::l=>by simp[yd]
theorem wq {α β:Type}: ∀ {k:List α} {x:List β},k.length=x.length->(k.zip x).map (·.1)=k/\(k.zip x).map (·.2)=x
 | [],[],_=>⟨rfl,rfl⟩
 |a::k,b::x,h=>by
  obtain⟨d,c⟩:=wq (k:=k) (x:=x) (Xl h);nofun
def mz:D->Option lX
 | .dct ks ds=>p5 (ks.zip ds)
 |_=>Sr
def db(kvs:lX):D:=.dct (kvs.map (·.1)) (kvs.map (·.2))
theorem ly {K:SA}(h:eb K H (vw H hid) v d)(e:mz d=p5 kvs): ∃a o us,v=.ref a/\vw H hid a=p5 (.frz o (.dT us))/\KRt K (vw H hid) us kvs:=by
 cases d with
 |dct ks ds=>
  cases e;rcases h with h|⟨_,_,_,_,b,_⟩
  ·cases h with
   |dct q l r=>
    refine⟨_,_,_,rfl,q,?_,?_⟩
    ·rw[(wq l).1,(wq (l.trans r.length)).1]
    ·rw[(wq l).2,(wq (l.trans r.length)).2];exact r
  nofun
 |_=>cases e
theorem AG {K:SA}(h:F a=p5 (.frz o (.dT us)))(r:KRt K F us kvs):Rep K F (.ref a) (db kvs):=by
 refine .dct (o:=o) (xs:=us.map (·.2)) ?_ ?_ r.2
 ·rw[<-r.1,yd];exact h
 ·rw[<-r.1,SO,SO]
def QU(i:Nat)(ρ:aB):Option aB:=(nY i ρ).map λkvs=>ρ.set i (.v (db kvs))
def Ji(i:Nat)(t:FS):FS:=λρ=>match QU i ρ with
 |some ρ'=>t ρ'
 |none=>.no
section
variable {st:Stmt}
theorem x8(i:Nat)(h:DS X c k st t):DS X c k st (Ji i t):=λρ J s σ H D I G=>by
 obtain⟨hid,m,q⟩:=G;unfold Ji at q;split at q
 ·rename_i ρ' e
  obtain⟨kvs,g,rfl⟩:=S0.mp e;obtain⟨a,us,M,N,T,P,O⟩:=m.dictT g;obtain⟨z,y,xs,r,o,es,ep,C,U⟩:=(show ci X.prog X.w H s.heap a (.dT us) from I.hok a _ P)
  have S: ∀b xs,H b=p5 (.tup xs)->b≠a:=λb xs w e=>by nofun
  have E:ci X.prog X.w (aW H a (.frz o (.dT us))) s.heap a (.frz o (.dT us)):=⟨C,z,y,xs,Paired.mapP r λp q z=>⟨z.1,by rw[az (S _ _ z.2.1)];exact z.2.1,z.2.2⟩,o,es,ep,C,U⟩
  have Q:Inv X J σ (aW H a (.frz o (.dT us))) {s with heap:=s.heap,toks:=s.toks}:=I.write (x:=a) (e:=a) (by rw[P];trivial) (.inl rfl) (λb u _ V=>V) ⟨o,C⟩ E;have lt:=(SK.mp (gE g)).1;have F:SR X.K c hid (ρ.set i .no) σ H:=m.forget (by simp) λj s' q=>by
   by_cases l:j=i
   ·nofun
   grind
  have A:=F.reveal (u':=.frz o (.dT us)) N T λj W f q n=>by
   have l:j≠i:=λz=>by
    subst z;rw[Ta lt] at f;exact f
   rw[SS (To l)] at f;rcases n with z|⟨Y,R⟩
   ·subst z;exact m.ap j i a l f (by rw[gE g];trivial) q M
   nofun
  have L:ab (vw H hid) (vw (aW H a (.frz o (.dT us))) (eA hid a)):=i8 N;have B:vw (aW H a (.frz o (.dT us))) (eA hid a) a=p5 (.frz o (.dT us)):=Hj;have d:=A.mark (i:=i) (s:=.v (db kvs)) ⟨_,M,AG B ⟨O.1,O.2.mono L⟩⟩ id;rw[uP] at d;exact h _ J s σ _ D Q ⟨eA hid a,d,q.mono L⟩
 ·exact q.elim
end
theorem MM {K:SA}{ns:List Int}(h:eb K H' (vw H' hid) z (.tup (ns.map D.int))): ∃b,z=.ref b/\H' b=p5 (.tup (ns.map V.int)):=by
 obtain⟨b,xs,rfl,a,_,c⟩:=h.tup;rw[oD c] at a;exact⟨b,rfl,bU _ _ _ _ a⟩
theorem Fl(ns:List Int):(iK ns).map kV=ns.map V.int:=by unfold iK;rw[S4];rfl
section
variable {X:Cx}{k:Kd}{f:Expr}
def nO(f:FE):aB->Option (List Int):=λρ=>(f ρ).bind nX
theorem jF(m:DP X c k1 e fe):DK X c e (nO fe):=λhid ρ=>PE.imp (m hid ρ) λσ H Q f=>by
 obtain⟨g,ns,e,q⟩:=f;obtain⟨d,j,k⟩:=Sz.mp e;have l:=fA k;subst l;refine⟨g,_,j,λv h s r=>?_⟩;obtain⟨b,rfl,i⟩:=MM (RK.b k1 r λa n=>g.fresh n);exact q b h s i
def p7(a:FE)(fk:aB->Option (List Int)):FE:=λρ=>((a ρ).bind mz).bind λkvs=>(fk ρ).bind λk=>bZ kvs (iK k)
theorem uI(E:X.A.units+1<Tq)(D:DP X c k2 o fo)(F:DK X c e fk)(u:Dl e):DP X c .s (.Subscript o e pos) (p7 fo fk):=λhid ρ=>
 PE.imp (zY E (D hid ρ) (F hid ρ) u) λσ H Q i=>by
  obtain⟨h,d,f,q⟩:=i;obtain⟨kvs,g,f⟩:=Sz.mp f;obtain⟨J,w,g⟩:=Sz.mp g;obtain⟨k,B,f⟩:=Sz.mp f;refine⟨h,_,w,λx I j G=>⟨h.ext j,_,B,λb z p t=>?_⟩⟩;obtain⟨a,o',us,rfl,y,r⟩:=ly (eb.ext (RK.b k2 G λa n=>h.fresh n) p) g;rcases r.val (iK k) with⟨l,m⟩|⟨v,d',l,m,C⟩
  ·nofun
  ·rw[m] at f;cases f;exact⟨a,v,rfl,.inr ⟨us,iK k,b,.inr ⟨o',bU _ _ _ _ y⟩,rfl,by rw[Fl];exact t,l.symm⟩,q _ z (j.trans p) C⟩
def Om(b:Bool)(fk:aB->Option (List Int))(a:FE):FT:=λρ=>(fk ρ).bind λk=>((a ρ).bind mz).map λkvs=>if b then !(bZ kvs (iK k)).isSome else(bZ kvs (iK k)).isSome
theorem KRt.is {K:SA}(h:KRt K F us kvs)(k:List aP):(cN us k).isSome=(bZ kvs k).isSome:=by
 rcases h.val k with⟨a,b⟩|⟨v,d',a,b,c⟩<;>rw[a,b]<;>rfl
theorem y0(z:X.A.units+1<Tq)(B:DK X c e fk)(y:DP X c k2 o fo)(v:UV .NotIn o=false:=by rfl):DT X c (.Compare e [.NotIn] [o] pos) (Om S1 fk fo):=λhid ρ=>
 PT.imp (vx (Dy z (B hid ρ) (y hid ρ)) v) λσ H Q j=>by
  obtain⟨i,d,h,q⟩:=j;obtain⟨t,u,h⟩:=Sz.mp h;obtain⟨kvs,g,rfl⟩:=S0.mp h;obtain⟨D,p,g⟩:=Sz.mp g;refine⟨i,_,u,λb C f m=>⟨i.ext f,_,p,λx s k w=>?_⟩⟩;obtain⟨a,o',us,rfl,r,l⟩:=ly (RK.b k2 w λa n=>(i.ext f).fresh n) g;refine⟨a,_,rfl,.inr ⟨us,iK t,b,.inr ⟨o',bU _ _ _ _ r⟩,rfl,by rw[Fl];exact k _ _ m,rfl⟩,_,rfl,?_⟩;rw[l.is];exact q s (f.trans k)
def PK(f:FE):FA:=λρ=>((f ρ).bind mz).bind λkvs=>(hW kvs).map λa=>a.map a7
theorem GQ(M:DP X c .s e fe):DIp X c tg e (PK fe):=λhid ρ=>PI.imp (Nm (M hid ρ)) λσ H R l=>by
 obtain⟨h,ds,e,q⟩:=l;obtain⟨kvs,g,e⟩:=Sz.mp e;obtain⟨P,A,g⟩:=Sz.mp g;obtain⟨D,C,rfl⟩:=S0.mp e;refine⟨h,_,A,λv y m N=>?_⟩;have i:=h.ext m;obtain⟨a,o',us,rfl,f,z⟩:=ly (RK.b .s N λa n=>h.fresh n) g;refine⟨a,o',us,rfl,bU _ _ _ _ f,λxs E=>?_⟩;have L:=zp E (by rw[z.1];exact lN C);have o:=kB (K:=X.K) i.ht L;have I:=o.length;refine q _ y m ⟨λj d B F w=>?_,λB w=>⟨w _ _ f,I.symm⟩⟩;obtain⟨v,r,J⟩:=o.get F;have k:j<(xs.map λx=>V.ref x.2.1).length:=(SK.mp r).1;refine⟨⟨w _ _ f,k⟩,λx O ⟨u,p⟩=>?_⟩;subst u;rw[r] at p;cases p;exact⟨ab.refl _,λt _ G=>J.mono G⟩
end
section
variable {X:Cx}{p:Pos}
def NE(b:FE):FE:=λρ=>((b ρ).bind mz).bind λkvs=>(hW kvs).bind λa=>if a.length<64/\ ∀k∈a,k≠[] then p5 (.lst ((aU aS a).map a7)) else Sr
theorem IX(k:X.calm=S1)(A:X.mg "sorted"=Sr)(B:DP X c k2 o fo)(v:Gl X "sorted":=by rfl)(hv:T3 "sorted"=p5 (.builtin "sorted"):=by kernel_rfl)
 (s:SF [o] X.env=(Pa,eval o X.env)::SF [] X.env:=by rfl) (f:(Ul pos (SF [] X.env)).any (·.1)=false:=by rfl):DP X c .n (.Call (.Name "sorted" p) [o] [] pos) (NE fo):=λhid ρ=>
 PE.imp (fS (kq k) v A hv (bn (B hid ρ) bW s) () (by rfl) s f) λσ H Q m=>by
  obtain⟨g,d,e,q⟩:=m;obtain⟨kvs,j,e⟩:=Sz.mp e;obtain⟨E,u,j⟩:=Sz.mp j;obtain⟨h,w,e⟩:=Sz.mp e;split at e
  ·rename_i hz
   cases e;refine⟨g,_,u,λx D i C=>?_⟩;obtain⟨a,o',us,rfl,z,t⟩:=ly (RK.b k2 C λa n=>g.fresh n) j;exact⟨a,us,h,rfl,.inr ⟨o',bU _ _ _ _ z⟩,by rw[t.1];exact lN w,hz.1,hz.2,λl ys r y=>q _ _ (i.trans (aJ r _)) (fH r i (kB (g.ext i).ht y))⟩
  nofun
end
set_option maxHeartbeats 3200000
set_option maxHeartbeats 1000000
end
end Lake
namespace PySem
noncomputable section
section
variable {prog:S9}{w:Tu}{K:Type} [DecidableEq K]{knd:HeapKind prog w K}{A:Tr}
theorem IP {d a:Addr}{xs:List (K×Addr×Sw)}{k:K}{v:Sw}{Q:Sw->Sx->Prop}(hu:knd.room A)(hkey:knd.is s.heap k a)(hm:s.heap.DictOfH knd d xs)
 (hold: ∀p,Z7 xs k=p5 p->Q p.2 {s with toks:=s.toks+knd.draws k})
 (hnew:Z7 xs k=Sr-> ∀h',h'.DictOfH knd d (storedH xs k a v)->Tw d s.heap h'->Q v {s with heap:=h',toks:=s.toks+knd.draws k})
 (hsz:xs.length<=SU):SL (model prog w) A (jab d (.ref a) v) Q E s:=by
 obtain⟨o,es,ep,ho,hc,hd,he,his,hn⟩:=hm;unfold jab
 try with_reducible refine TM ?_
 refine Ss (knd.pyHash hu hkey ?_);refine Ss (wpAny_dictFind_heap (s:={s with toks:=s.toks+knd.draws k}) hu hkey ho hd he his hn ?_ ?_)
 ·intro hno;have hnot:k∉xs.map (·.1):=not_mem_keys_of_get hno
  refine Ss (XA (Ss (wpAny_updateDictKeys (hz:=by have e:=size_of_entries he;nofun) (s:={s with toks:=s.toks+knd.draws k}) ho hd (Sv (hnew (Xp hno) _ ⟨_,_,ep+1,Ts _ ho (Obj.isFreed_of_dict (jac hd _)),
   hc.mapDictKeys _,jac hd _,?_,?_,?_⟩ (Tx ..))))))
  ·rw[jcg (Xp hno)];simp[he,entryOfKey]
  ·rw[jcg (Xp hno)];intro x hx;rcases Tf.mp hx with hx|hx
   ·exact knd.keeps (his x hx) ho hd (Tx ..)
   ·simp only[Th] at hx;subst hx;exact knd.keeps hkey ho hd (Tx ..)
  ·rw[jcg (Xp hno)];grind[Th]
 ·intro j p hj;refine Ss (Xm (s:={s with toks:=s.toks+knd.draws k}) ho hd ?_);rw[entry_at he j,hj];exact Ss (XA (Sv (hold p (atKey_of_get hn hj))))
theorem kW(knd:HeapKind prog w K)(d a:Addr)(hd:(d==UP)=Pa)(dflt:Sw):
 MeetsIn prog w (Vc.«dict.setdefault» ⟨[.ref d,.ref a,dflt],[]⟩) (λA R s=>knd.room A.in1/\ ∃k xs,knd.is s.heap k a/\s.heap.DictOfH knd d xs/\xs.length<=SU/\
  (∀p,Z7 xs k=p5 p->R (.ok (.ret p.2)) {s with toks:=s.toks+knd.draws k})/\
  (Z7 xs k=Sr-> ∀h',h'.DictOfH knd d (storedH xs k a dflt)->Tw d s.heap h'->R (.ok (.ret dflt)) {s with heap:=h',toks:=s.toks+knd.draws k})):=
 .of_wp λA R s hq_=>by
  obtain⟨hu,k,xs,hkey,hm,hz,h1,h2⟩:=hq_;unfold Vc.«dict.setdefault»;refine Ss ?_
  unfold jdu;refine Ss (ZQ hm.typeIs ?_);show SL _ _ (pure (d,Tc a,p5 dflt)) _ _ s;refine Sv ?_
  show SL _ _ (if(d==UP)=S1 then _ else(jab d (.ref a) dflt>>=_)) _ _ s;rw[if_neg (by nofun)];exact Ss (IP hu hkey hm (λp hp=>Sv ⟨p.2,rfl,h1 p hp⟩) (λhn h' hm' hs'=>Sv ⟨dflt,rfl,h2 hn h' hm' hs'⟩) hz)
end
end
end PySem
namespace Lake
noncomputable section
open PySem PySem.Spec PyProof.Rows
section
variable {X:Cx}{A:Tr}
theorem FW {kvs:List (List aP×V)}{k:List aP}(M:A.units+1<Tq)(I:Inv X aa σ H s)(e:H a=p5 (.dT kvs))(m:H b=p5 (.tup (k.map kV)))(l:kvs.length<SU)(L:b6 z r)
 (y: ∀v j s',cN kvs k=p5 v->Inv X aa σ H s'->b6 v j->Q j s') (t: ∀s',cN kvs k=Sr->Inv X aa σ (aW H a (.dT (fX kvs k z))) s'->Q r s'):
 SL (model X.prog X.w) A (call (.builtin "dict.setdefault") [.ref a,.ref b,r]) Q E s:=by
 obtain⟨G,i,xs,d,n⟩:=wl I.hok e;have hz:xs.length<=sizeLine:=by rw[<-UF d];exact G
 have J:(fX kvs k z).length<=sizeLine:=by grind[iU]
 refine jbo X4 n.typeIs PySem.F.entry_dict_setdefault (PySem.F.args_dict_setdefault_3 _ _ _) (kW (W6 (bR X.prog X.w)) a b i r) ⟨Uc M,k,xs,jW I.hok m,n,hz,λp u=>?_,λB h' f x=>?_⟩
 ·have q:=d.val k;rw[u] at q;cases ev:cN kvs k with
  |none=>rw[ev] at q;exact q.elim
  |some v=>rw[ev] at q;exact y v _ _ ev (I.tok _) q
 ·have q:=d.val k;rw[B] at q;cases ev:cN kvs k with
  |some v=>rw[ev] at q;exact q.elim
  |none=>
   refine t _ ev ?_
   obtain⟨q,es,ep,h,K,C,o,_,D⟩:=f;refine tY I (by rw[e];exact True.intro) x ⟨q,h⟩ ⟨J,i,_,(d.put k m L).keeps λc ys g=>?_,q,es,ep,h,K,C,o,D⟩;rw[az (Lp g e (λz=>nomatch z))];exact g
end
def P1(e ty g:TE):TE:=λσ H Q=>e σ H λx d=> ∃a,x=.ref a/\QF d a/\ty σ d λy f=>g σ f λz c=> ∃kvs k b,y=.ref b/\c a=p5 (.dT kvs)/\c b=p5 (.tup (k.map kV))/\kvs.length<SU/\
 (∀v,cN kvs k=p5 v->Q v c)/\(cN kvs k=Sr->Q z (aW c a (.dT (fX kvs k z))))
section
variable {X:Cx}{apos:Pos}
theorem KO(Z:X.A.units+1<Tq)(Y:PE X o td)(he:PE X e ty)(B:PE X f tx)(m:M2 X o "setdefault" apos e f cpos):PE X (.Call (.Attribute o "setdefault" apos) [e,f] [] cpos) (P1 td ty tx):=by
 intro c s σ H Q I h;refine jbp m.base m.few m.line Ze X4 PySem.F.type_dict_setdefault (bB (Y c s σ H _ I h) λu N l=>?_);obtain⟨x,r,p,V,a,ex,d,K⟩:=l;subst ex;obtain rfl:u=Tc a:=V;obtain⟨S,P,_⟩:=GH p d;refine⟨S,P,?_⟩
 rw[m.trees];refine Vp rfl (WC (Wc (bB (he c N σ r _ p K) λt U ⟨y,C,q,W,w⟩=>
  Wc (bB (B c U σ C _ q w) λfv s3 ⟨z,L,D,n,kvs,k,b,O,E,G,R,M,T⟩=>YI ?_))))
 subst O;obtain rfl:t=Tc b:=W;exact FW Z D E G R n (λv w' J j g i=>⟨v,L,g,i,M v j⟩) λJ j g=>⟨z,_,g,n,T j⟩
end
end
end Lake
namespace HT
noncomputable section
open PySem PyProof.Rows
end
end HT
namespace Lake
noncomputable section
open PySem PySem.Spec PyProof.Rows
abbrev n9:=List (List aP×List D)
def nN(i:Nat)(ρ:aB):Option n9:=match ρ[i]? with
 |some (.ob (.dN kvs))=>p5 kvs
 |_=>Sr
theorem dH(h:nN i ρ=p5 kvs):ρ[i]? =p5 (.ob (.dN kvs)):=by
 unfold nN at h;grind
def Js(kvs:n9)(k:List aP):n9:=if(kvs.any λz=>decide (z.1=k))=S1 then kvs else kvs++[(k,[])]
def cM:n9->List aP->D->n9
 | [],k,d=>[(k,[d])]
 |z::r,k,d=>if z.1=k then(z.1,z.2++[d])::r else z::cM r k d
def Qh(us:List (List aP×V))(bs:List Addr)(kvs:n9):Prop:=us.map (·.1)=kvs.map (·.1)/\us.map (·.2)=bs.map V.ref
theorem u8(k:List aP)(d:D): ∀ {us:List (List aP×V)} {bs:List Addr} {kvs:n9},Qh us bs kvs->(cN us k=Sr/\Js kvs k=kvs++[(k,[])]/\cM kvs k d=kvs++[(k,[d])])\/ ∃q b m,bs[q]? =p5 b/\kvs[q]? =p5 (k,m)/\cN us k=p5 (.ref b)/\Js kvs k=kvs/\cM kvs k d=kvs.set q (k,m++[d])
 | [],bs,kvs,h=>by
   have:kvs=[]:=by have:=congrArg Ua h.1;simpa using this.symm
   subst this;exact .inl ⟨rfl,rfl,rfl⟩
 |u::us,bs,kvs,h=>by
  obtain⟨o,n⟩:=h;cases kvs with
  |nil=>nofun
  |cons z kvs=>
   cases bs with
   |nil=>nofun
   |cons b bs=>
    rw[SD,SD] at o n;injection o with j x
    injection n with i p
    obtain⟨a,y⟩:=u;obtain⟨r,c⟩:=z;have j:a=r:=j;have i:y=.ref b:=i;subst j i
    by_cases e:a=k
    ·subst e;refine .inr ⟨0,b,c,rfl,rfl,lA rfl,?_,?_⟩
     ·simp[Js]
     ·simp[cM]
    ·have v:cN ((a,V.ref b)::us) k=cN us k:=kP e;have s:cM ((a,c)::kvs) k d=(a,c)::cM kvs k d:=by rw[cM,if_neg e]
     have w:(((a,c)::kvs).any λz=>decide (z.1=k))=(kvs.any λz=>decide (z.1=k)):=by nofun
     rw[v,s];unfold Js;rw[w];rcases u8 k d (us:=us) (bs:=bs) (kvs:=kvs) ⟨x,p⟩ with⟨l,g,f⟩|⟨q,b',m,l,g,f,t,A⟩
     ·refine .inl ⟨l,?_,by rw[f];rfl⟩;unfold Js at g;grind
     ·refine .inr ⟨q+1,b',m,by simpa using l,by simpa using g,f,?_,by nofun⟩;unfold Js at t;nofun
theorem xj {α:Type}{l:List α}{i:Nat}{x:α}(h:l[i]? =p5 x):l.set i x=l:=by
 refine Wz λj=>?_
 rw[jbm];split
 ·rename_i e;subst e
  rw[if_pos (SK.mp h).1,h]
 ·rfl
theorem IJ {us:List (List aP×V)}{k:List aP}{v:V}(h:cN us k=Sr):fX us k v=us++[(k,v)]:=by
 unfold fX;rw[if_neg];intro q;grind[cN,UZ]
theorem FB(h:a≠b):aW (aW H a o) b u=aW (aW H b u) a o:=by
 funext x
 by_cases c:x=b
 ·subst c;rw[aA,az (To h),aA]
 ·rw[az c]
  by_cases d:x=a
  ·grind[aA]
  ·grind[az]
section
variable {K:SA}{c:Ct}{ρ:aB}{σ:St}
theorem SR.dn(h:SR K c hid ρ σ H){kvs:n9}(e:nN i ρ=p5 kvs): ∃a us bs,σ[i]? =p5 (p5 (.ref a))/\(hid a=S1/\c.H₀ a=Sr)/\H a=p5 (.dT us)/\Qh us bs kvs/\bs.Nodup/\Paired (NOk K c hid H a) bs (kvs.map λz=>NO.l z.2):=by
 obtain⟨a,d,b,us,bs,g,m,j,k,f⟩:=h.sl i _ (dH e);exact⟨a,us,bs,d,b,g,⟨m,j⟩,k,f⟩
theorem SR.dnApp(h:SR K c hid ρ σ H){i q:Nat}{kvs:n9}{k:List aP}{m:List D}{bs:List Addr}(e:nN i ρ=p5 kvs)(J:σ[i]? =p5 (p5 (.ref a)))(C:hid a=S1/\c.H₀ a=Sr)(E:H a=p5 (.dT us))(A:Qh us bs kvs)(s:bs.Nodup)(y:Paired (NOk K c hid H a) bs (kvs.map λz=>NO.l z.2))
 (o:bs[q]? =p5 b) (L:kvs[q]? =p5 (k,m)) (j:H b=p5 (.nst a (.lst xs))) (r:Rep K (vw H hid) w d):SR K c hid (ρ.set i (.ob (.dN (kvs.set q (k,m++[d]))))) σ (aW H b (.nst a (.lst (xs++[w])))):=by
 obtain⟨b',p,B⟩:=Lake.Paired.get y (show(kvs.map λz=>NO.l z.2)[q]? =p5 (.l m) by nofun);rw[o] at p;cases p;obtain⟨⟨f,g⟩,ys,t,I⟩:=B;rw[j] at t;cases t;have F:a≠b:=λz=>by nofun
 have G:(kvs.map (·.1))[q]? =p5 k:=by nofun
 refine h.putO (dH e) trivial trivial J (.inr ⟨_,j⟩) f g nofun ⟨C,us,bs,by rw[az F];exact E,?_,A.2,s,?_⟩
 ·rw[jfs,xj G];exact A.1
 ·rw[jfs];refine Paired.setN s y o ⟨⟨f,g⟩,_,aA,?_⟩ λz u n x=>x.mono (λv q=>by rw[az n];exact q) (by rw[bV f];exact ab.refl _) λ_=>x.at.1.1
  rw[bV f];exact I.append (.cons r .nil)
end
theorem PE.post(h:PE X e t):PE X e (λσ H Q=>t σ H λx f=> ∀b s,Inv X b σ f s-> ∃a,Inv X b σ a s/\Q x a):=by
 intro b s σ H Q I q;refine bB (h b s σ H _ I q) λu s' d=>?_
 obtain⟨x,f,i,r,w⟩:=d;obtain⟨a,c,g⟩:=w b s' i;exact⟨x,a,c,r,g⟩
section
variable {X:Cx}{pos p1 pl apos cpos:Pos}{fk:aB->Option (List Int)}{fv:FE}
def A2(i:Nat)(fk:aB->Option (List Int))(fv:FE):FS:=λρ=>match nN i ρ,fk ρ with
 |some kvs,some ns=>(match fv (ρ.set i (.ob (.dN (Js kvs (iK ns))))) with
  |some d=>if kvs.length<=1000/\ ∀z∈kvs,z.2.length<=1000 then .nx (ρ.set i (.ob (.dN (cM kvs (iK ns) d)))) else .no
  |none=>.no)
 |_,_=>.no
theorem IU(i:Nat)(hu:X.A.units+1<Tq)(slot:Slot "list" "append" "list.append")(hty:jcU (.builtin "list.append")=pure (.type "method_descriptor"))(hk:DK X c ek fk)(hv:DP X c .s ev fv)
 (mm:M2 X (.Name y py) "setdefault" p1 ek (.List [] pl) p2) (hN:X.N[i]? =p5 y:=by rfl) (hv':lW X.env.scope y:=by first|exact TL rfl|exact Te (TL rfl)|exact Te (Te rfl)) (hd:(y==("__debug__":Str))=false:=by decide) (hcd:(y==("__classdict__":Str))=false:=by decide)
 (hbase:UG (.Call (.Attribute (.Name y py) "setdefault" p1) [ek,.List [] pl] [] p2) "append" X.env (eval (.Call (.Attribute (.Name y py) "setdefault" p1) [ek,.List [] pl] [] p2) X.env)=eval (.Call (.Attribute (.Name y py) "setdefault" p1) [ek,.List [] pl] [] p2) X.env:=by rfl)
 (hfew:((Ul cpos (SF [ev] X.env)).all (λx=> !x.1)&&(XO cpos (V7 [] X.env)).all (λx=>x.1.isSome)
   &&Oo ([ev].length+([]:List VI).length+(if([]:List VI).isEmpty then 0 else 1)<30))=true:=by rfl)
 (hline:(apos.endLine==cpos.line)=true:=by rfl) (hs:SF [ev] X.env=(Pa,eval ev X.env)::SF [] X.env:=by rfl) (hplain:(Ul cpos (SF [] X.env)).any (·.1)=false:=by rfl)
 (hsw:Uw (.Call (.Attribute (.Call (.Attribute (.Name y py) "setdefault" p1) [ek,.List [] pl] [] p2) "append" apos) [ev] [] cpos) Sr pos.line X.env=pure false:=by rfl):
 DS X c k (.Expr (.Call (.Attribute (.Call (.Attribute (.Name y py) "setdefault" p1) [ek,.List [] pl] [] p2) "append" apos) [ev] [] cpos) pos) (A2 i fk fv):=λρ=>PS.imp (Bp (Mt slot hty Jm (PE.post (KO hu (pv i hN hv' hd hcd) (jM λhid=>hk hid ρ) (HC bW) mm)) (bn (jM λz:bC×aB=>hv z.1 z.2) bW hs) hbase hfew hline hs hplain) hsw) λD σ H hq_=>by
 obtain⟨hid,sr,q⟩:=hq_;unfold A2 at q;split at q
 ·rename_i kvs ns e0 e2
  split at q
  ·rename_i d e3
   split at q
   ·rename_i hz
    obtain⟨a,us,bs,a1,a2,a3,a4,a5,a6⟩:=sr.dn e0;have lu:us.length=kvs.length:=by have:=congrArg Ua a4.1;simpa using this
    refine⟨.ref a,a1,a,rfl,.inr ⟨us,.inl a3⟩,hid,sr,ns,e2,λb H2 s2 hb=>⟨Ur _,λl hl=>?_⟩⟩;have sm:=aJ hl (.lst []);have hb':H2 b=p5 (.tup ((iK ns).map kV)):=by rw[Fl];exact hb
    have nla:l≠a:=λz=>by subst z;rw[s2 _ _ a3] at hl;nofun
    refine⟨us,iK ns,b,rfl,sm _ _ (s2 _ _ a3),sm _ _ hb',by rw[lu];exact SZ hz.1 (),λv hvv=>?_,λhno=>?_⟩
    ·rcases u8 (iK ns) d a4 with⟨n1,_,_⟩|⟨qq,bq,m,k1,k2,k3,k4,k5⟩
     ·nofun
     ·rw[hvv] at k3;cases k3;rw[k4,xj (dH e0)] at e3;have s3:=s2.trans sm;have sr3:=sr.ext s3;obtain⟨b',b1,b2⟩:=Lake.Paired.get a6 (show(kvs.map λz=>NO.l z.2)[qq]? =p5 (.l m) by nofun);rw[k1] at b1;cases b1;obtain⟨⟨hb1,hb2⟩,xs,w1,w2⟩:=b2;intro aa s I;refine⟨_,I,⟨bq,a,xs,rfl,s3 _ _ w1⟩,(hid,ρ),sr3,d,e3,λw H4 s4 r4=>?_⟩;have s34:=s3.trans s4;refine⟨bq,a,xs,w,rfl,rfl,s34 _ _ w1,?_,?_⟩
      ·rw[w2.length];exact SZ (hz.2 _ (Tj k2)) ()
      ·rw[k5] at q;have pr:Paired (NOk X.K c hid H4 a) bs (kvs.map λz=>NO.l z.2):=Paired.mapP a6 λx y z=>z.mono (λ_ w=>s34 _ _ w) (aC s34) λ_=>z.at.1.1
       exact q _ _ hid (SR.dnApp (sr3.ext s4) e0 a1 a2 (s34 _ _ a3) a4 a5 pr k1 k2 (s34 _ _ w1) r4) (by rw[bV hb1];exact aC s34)
    ·rcases u8 (iK ns) d a4 with⟨n1,n2,n3⟩|⟨qq,bq,m,k1,k2,k3,k4,k5⟩
     ·rw[n2] at e3;rw[n3] at q;intro aa s I;have ha2:H2 a=some (.dT us):=s2 _ _ a3;have I2:=I.nest (d:=l) (p:=a) (u:=.lst []) (by rw[az nla,aA]) trivial;have sr2:=sr.ext s2;have nf:=sr2.fresh hl;have sr3:=(sr2.hide sm hl aA).write (o':=.nst a (.lst [])) cm (sr2.fresh0 hl) (sr2.notOw nf) aA;have ha':bA hid l a=true:=cg a2.1
      let Ha:=aW (aW (aW H2 l (.lst [])) l (.nst a (.lst []))) a (.dT (us++[(iK ns,.ref l)]))
      have eH:aW (aW (aW H2 l (.lst [])) a (.dT (fX us (iK ns) (.ref l)))) l (.nst a (.lst []))=Ha:=by
       rw[IJ hno,FB (To nla)]
      have v1:vw Ha (bA hid l)=vw H2 hid:=by
       show vw (aW _ a _) _=_;rw[bV ha',bV cm,uJ hl]
      have s2':ab (vw H hid) (vw Ha (bA hid l)):=by rw[v1];exact aC s2
      have hal:Ha l=p5 (.nst a (.lst [])):=by show aW _ a _ l=_;rw[az nla,aA]
      have haa:Ha a=p5 (.dT (us++[(iK ns,.ref l)])):=aA;have dp:Qh (us++[(iK ns,V.ref l)]) (bs++[l]) (kvs++[(iK ns,[])]):=⟨by rw[Tb,Tb,a4.1];rfl,by rw[Tb,Tb,a4.2];rfl⟩
      have nd:(bs++[l]).Nodup:=by
       rw[TX];refine⟨a5,by simp,λz hz w hw e=>?_⟩;rw[Th] at hw;subst hw;subst e;obtain⟨_,r⟩:=Lake.Paired.mem a6 hz;obtain⟨o,ho⟩:=r.at.2;rw[s2 _ _ ho] at hl;nofun
      have pr:Paired (NOk X.K c (bA hid l) Ha a) (bs++[l]) ((kvs++[(iK ns,([]:List Lake.D))]).map λz=>NO.l z.2):=by
       rw[Tb];refine Lake.Paired.app1 ⟨⟨cm,sr2.fresh0 hl⟩,[],hal,.nil⟩ (Lake.Paired.off a6 λz u _ r=>?_);obtain⟨o,ho⟩:=r.at.2;have nb:z≠l:=λe=>by grind
       have na:z≠a:=λe=>by grind
       exact r.mono (λw hw=>by show aW (aW (aW H2 l _) l _) a _ z=_;rw[az na,az nb,az nb];exact s2 _ _ hw) s2' λ_=>cg r.at.1.1
      have sr4:SR X.K c (bA hid l) (ρ.set i (.ob (.dN (kvs++[(iK ns,[])])))) σ Ha:=sr3.putO (dH e0) trivial trivial a1 (.inl rfl) ha' a2.2 nofun ⟨⟨ha',a2.2⟩,us++[(iK ns,V.ref l)],bs++[l],haa,dp.1,dp.2,nd,pr⟩;refine⟨_,I2,?_⟩;rw[eH];refine⟨⟨l,a,[],rfl,hal⟩,(bA hid l,_),sr4,d,e3,λw H4 s4 r4=>?_⟩;refine⟨l,a,[],w,rfl,rfl,s4 _ _ hal,by decide,?_⟩;have lt:i<ρ.length:=(SK.mp (dH e0)).1;have g4:nN i (ρ.set i (.ob (.dN (kvs++[(iK ns,[])]))))=p5 (kvs++[(iK ns,[])]):=by unfold nN;rw[Ta lt]
      have pr4:Paired (NOk X.K c (bA hid l) H4 a) (bs++[l]) ((kvs++[(iK ns,([]:List Lake.D))]).map λz=>NO.l z.2):=Paired.mapP pr λx y z=>z.mono (λ_ w=>s4 _ _ w) (aC s4) λ_=>z.at.1.1
      have lb:bs.length=kvs.length:=by have:=congrArg Ua a4.2;simp at this;nofun
      have sr5:=SR.dnApp (sr4.ext s4) (q:=kvs.length) g4 a1 ⟨ha',a2.2⟩ (s4 _ _ haa) dp nd pr4 (by nofun) (show(kvs++[(iK ns,[])])[kvs.length]? =p5 (iK ns,[]) by simp) (s4 _ _ hal) r4;rw[uP,show(kvs++[(iK ns,([]:List Lake.D))]).set kvs.length (iK ns,[]++[d])=kvs++[(iK ns,[d])] by simp] at sr5;exact q _ _ (bA hid l) sr5 (by rw[bV cm];exact s2'.trans (aC s4))
     nofun
   ·exact q.elim
  ·exact q.elim
 ·exact q.elim
end
section
variable {st:Stmt}{t:FS}
def LT(i:Nat)(t:FS):FS:=λρ=>match nY i ρ with
 |some []=>t (ρ.set i (.ob (.dN [])))
 |_=>.no
theorem KZ(i:Nat)(h:DS X c k st t):DS X c k st (LT i t):=λρ j s σ H D I b=>by
 obtain⟨hid,e,q⟩:=b;unfold LT at q;split at q
 ·rename_i d
  obtain⟨a,us,l,f,g,n,m⟩:=e.dictT d;have:us=[]:=by have:=congrArg Ua m.1;simpa using this
  subst this;have z:=e.putO (b':=.dN []) (o':=.dT []) (gE d) trivial trivial l (.inl rfl) f g nofun ⟨⟨f,g⟩,[],[],aA,rfl,rfl,.nil,.nil⟩;rw[Er n] at z;exact h _ j s σ H D I ⟨hid,z,q⟩
 ·exact q.elim
def RC(i:Nat)(ρ:aB):Option aB:=(nN i ρ).map λkvs=>ρ.set i (.v (db (kvs.map λz=>(z.1,D.lst z.2))))
def OQ(i:Nat)(t:FS):FS:=λρ=>match RC i ρ with
 |some ρ'=>t ρ'
 |none=>.no
theorem Ff: ∀kvs:n9,(kvs.map λz=>NO.l z.2).mapM R1=p5 (kvs.map (·.2))
 | []=>rfl
 |z::r=>by
  rw[SD,jdr,Ff r];rfl
theorem MQ(i:Nat)(h:DS X c k st t):DS X c k st (OQ i t):=λρ S s σ H D I N=>by
 obtain⟨hid,B,q⟩:=N;unfold OQ at q;split at q
 ·rename_i ρ' e
  obtain⟨kvs,G,rfl⟩:=S0.mp e;obtain⟨a,us,bs,T,a2,a3,W,a5,Y⟩:=B.dn G;have lt:=(SK.mp (dH G)).1;have F:SR X.K c hid (ρ.set i .no) σ H:=B.forget (by simp) λj s' q=>by
   by_cases A:j=i
   ·nofun
   ·rw[SS (To A)] at q;exact .inr q
  have Z: ∀(j:Nat) g,Ow (ρ.set i .no)[j]? ->σ[j]? =p5 (p5 (.ref g))->g≠a/\ ∃u,H g=p5 u/\ ∀p v,u≠ .nst p v:=λj g o q=>by
   have A:j≠i:=λz=>by
    subst z;rw[Ta lt] at o;exact o
   rw[SS (To A)] at o;refine⟨λz=>?_,?_⟩
   ·subst z;exact B.ap j i g A o (by rw[dH G];trivial) q T
   ·cases w:ρ[j]? with
    |none=>rw[w] at o;exact o.elim
    |some s'=>rw[w] at o;exact B.kind w o q
  have hn: ∀b∈bs,∃o,H b=p5 (.nst a o):=λb n=>let⟨_,r⟩:=Lake.Paired.mem Y n;r.at.2
  obtain⟨f,d,I',M,E,P,k',b'⟩:=DD (Ks (X:=X)) Y (Ff kvs) a5 (λb n j g o q l=>by
   obtain⟨n1,w,n2,n3⟩:=Z j g o q;obtain⟨ob,C⟩:=hn b n;rcases l with z|⟨w',J⟩
   ·nofun
   nofun) I F
  have na:a∉bs:=λn=>by obtain⟨ob,C⟩:=hn a n;nofun
  obtain⟨k1,k2⟩:=k' a na;have e3:f a=p5 (.dT us):=k1.trans a3;have hh:d a=true:=k2.trans a2.1;obtain⟨z,y,xs,r,o,es,ep,R,g2⟩:=(show ci X.prog X.w f s.heap a (.dT us) from I'.hok a _ e3)
  have nt: ∀b xs,f b=p5 (.tup xs)->b≠a:=λb xs w e=>by nofun
  have L:ci X.prog X.w (aW f a (.frz o (.dT us))) s.heap a (.frz o (.dT us)):=⟨R,z,y,xs,Paired.mapP r λp q z=>⟨z.1,by rw[az (nt _ _ z.2.1)];exact z.2.1,z.2.2⟩,o,es,ep,R,g2⟩
  have I2:Inv X S σ (aW f a (.frz o (.dT us))) {s with heap:=s.heap,toks:=s.toks}:=I'.write (x:=a) (e:=a) (by rw[e3];trivial) (.inl rfl) (λb u _ hu=>hu) ⟨o,R⟩ L;have O:=M.reveal (u':=.frz o (.dT us)) hh a2.2 λj g ow q l=>by
   obtain⟨n1,_⟩:=Z j g ow q;rcases l with z|⟨w',J⟩
   ·exact n1 z.symm
   lia
  have sm:ab (vw f d) (vw (aW f a (.frz o (.dT us))) (eA d a)):=i8 hh;have Q:vw (aW f a (.frz o (.dT us))) (eA d a) a=p5 (.frz o (.dT us)):=Hj;have U:Reps X.K (vw (aW f a (.frz o (.dT us))) (eA d a)) (bs.map V.ref) ((kvs.map (·.2)).map Lake.D.lst):=rZ (Paired.mapP P λb v r=>r.mono sm);have kr:KRt X.K (vw (aW f a (.frz o (.dT us))) (eA d a)) us (kvs.map λz=>(z.1,Lake.D.lst z.2)):=⟨by rw[S4];exact W.1,by rw[W.2,S4];rw[S4] at U;exact U⟩
  have m:=O.mark (i:=i) (s:=.v (db (kvs.map λz=>(z.1,Lake.D.lst z.2)))) ⟨_,T,AG Q kr⟩ id;rw[uP] at m;exact h _ S s σ _ D I2 ⟨eA d a,m,q.mono (E.trans sm)⟩
 ·exact q.elim
end
def F8:=i2 (λ_ _=>S1) λi j=>.int (ZX i j)
def FV:=i2 (λi j=>decide (0<=j)&&Oo (j<=1000000)&&Oo (i.natAbs<2^64)) λi j=>.int (i*2^j.toNat)
section
variable {X:Cx}{k:Kd}{f:FE}{pos p apos:Pos}
theorem EU(e:DP X c k1 a f)(d:DP X c k2 b g):DP X c .s (.BinOp a .BitXor b pos) (ar F8 f g):=kE NU AS e d
theorem NT {K:SA}:rH K .s (rI Jw λi j=>.int (i*2^j.toNat)) FV:=Hh λi j h=>by
 simp only[TR,vu] at h;exact⟨h.1.1,h.1.2,h.2⟩
theorem L4(e:DP X c k1 a f)(d:DP X c k2 b g):DP X c .s (.BinOp a .LShift b pos) (ar FV f g):=kE L6 NT e d
def nh(f:FE):FE:=λρ=>match f ρ with
 |some (.int i)=>p5 (.int (Vm i))
 |_=>Sr
theorem K2:Oa X "int.bit_length" (λv vs H Q=> ∃i,v=.int i/\vs=[]/\Q (.int (Vm i)) H):=by
 intro c s σ H v vs u us Q I a b h;obtain⟨i,rfl,rfl,q⟩:=h;obtain⟨t,rfl⟩:=a;cases b;exact call_gives Yi rfl PySem.F.entry_int_bit_length (PySem.F.args_int_bit_length_1 _) (AutoIntG2.int_bit_length_int_0 i t) ⟨.int _,H,I.tok _,⟨_,rfl⟩,q⟩
theorem uL(u:DP X c k o f)(h:UG o "bit_length" X.env (eval o X.env)=eval o X.env:=by rfl)(g:(apos.endLine==pos.line)=true:=by rfl):
 DP X c .s (.Call (.Attribute o "bit_length" apos) [] [] pos) (nh f):=λhid ρ=>
 PE.imp (Fq PySem.F.plainAttrs_int Yi PySem.F.type_int_bit_length K2 (u hid ρ) h g) λσ H Q l=>by
  obtain⟨m,d,j,q⟩:=l;unfold nh at j;split at j
  ·rename_i i e
   cases j;refine⟨m,_,e,λv p r w=>?_⟩;have t:=RK.b k w λa n=>m.fresh n
   cases t.int;exact⟨rfl,i,rfl,rfl,q _ p r .int⟩
  nofun
variable {i:Nat}
def M8(i:Nat)(fk:FE):FT:=λρ=>(vA i ρ).bind λkvs=>((fk ρ).bind xR).map λk=>(qy kvs k).isSome
theorem Is(i:Nat)(M:X.A.units+1<Tq)(O:DP X c k1 e fe)(B:X.N[i]? =p5 y:=by rfl)(l:lW X.env.scope y:=by first|exact TL rfl|exact Te (TL rfl)|exact Te (Te rfl))(f:(y==("__debug__":Str))=false:=by decide)
 (h:(y==("__classdict__":Str))=false:=by decide) (L:UV .In (.Name y py)=false:=by rfl):DT X c (.Compare e [.In] [.Name y py] pos) (M8 i fe):=λhid ρ=>
 PT.imp (vx (Na M (O hid ρ) (pv i B l f h)) L) λσ H Q m=>by
  obtain⟨g,d,f,q⟩:=m;obtain⟨kvs,F,f⟩:=Sz.mp f;obtain⟨T,s,rfl⟩:=S0.mp f;obtain⟨R,J,C⟩:=Sz.mp s;obtain⟨j,rfl,rfl⟩:=j5 C;obtain⟨a,us,t,U,P,E,p⟩:=g.dict F;refine⟨g,_,J,λz o r D=>⟨.ref a,t,?_⟩⟩;have u:=(RK.b k1 D λa n=>g.fresh n).int;cases u;have G:o a=some (.dK us):=r _ _ E;have x:KRl X.K (vw o hid) us kvs:=⟨p.1,p.2.mono (aC r)⟩
  refine⟨a,_,rfl,lC.k (k:=Wv j) G,_,rfl,?_⟩;rcases x.val (Wv j) with⟨w,I⟩|⟨v,d',w,I,S⟩
  ·nofun
  nofun
def Rl(i:Nat):FE:=λρ=>(vA i ρ).map λkvs=>.int kvs.length
theorem CP:cO X (.builtin "len") (λxs H Q=> ∃a kvs,xs=[V.ref a]/\H a=p5 (.dK kvs)/\Q (.int kvs.length) H):=by
 intro e s σ H xs us Q I r h;obtain⟨a,kvs,rfl,d,q⟩:=h;obtain⟨u,rfl,b⟩:=eQ r;cases b;exact PN I (.inl d) λt s' c=>⟨.int kvs.length,H,c,⟨t,rfl⟩,q⟩
theorem KL(i:Nat)(t:X.mg "len"=Sr)(o:X.N[i]? =p5 y:=by rfl)(g:lW X.env.scope y:=by first|exact TL rfl|exact Te (TL rfl)|exact Te (Te rfl))(e:(y==("__debug__":Str))=false:=by decide)
 (f:(y==("__classdict__":Str))=false:=by decide) (m:Gl X "len":=by rfl) (j:SF [.Name y py] X.env=(Pa,eval (.Name y py) X.env)::SF [] X.env:=by rfl) (b:(Ul pos (SF [] X.env)).any (·.1)=false:=by rfl):
 DP X c .s (.Call (.Name "len" p) [.Name y py] [] pos) (Rl i):=λhid ρ=>
 PE.imp (fS CP m t jcX (bn (pv i o g e f) bW j) () (by rfl) j b) λσ H Q h=>by
  obtain⟨n,d,e,q⟩:=h;obtain⟨kvs,k,rfl⟩:=S0.mp e;obtain⟨a,us,l,w,x,v,r⟩:=n.dict k;have u:us.length=kvs.length:=by have:=congrArg Ua r.1;simpa using this
  refine⟨.ref a,l,a,us,rfl,v,?_⟩;rw[u];exact q _ H (ab.refl _) .int
end
section
variable {X:Cx}{fk:aB->Option (List Int)}{apos:Pos}
def wC(a:FE)(fk:aB->Option (List Int))(b:FE):FE:=λρ=>((a ρ).bind mz).bind λkvs=>(fk ρ).bind λns=>(b ρ).map λd=>(bZ kvs (iK ns)).getD d
theorem FX(P:X.A.units+1<Tq)(O:DP X c k2 o fo)(R:DK X c e fk)(G:DP X c .s f ff)(m:M2 X o "get" apos e f cpos):DP X c .s (.Call (.Attribute o "get" apos) [e,f] [] cpos) (wC fo fk ff):=λhid ρ=>
 PE.imp (wR P (O hid ρ) (R hid ρ) (G hid ρ) m) λσ H Q u=>by
  obtain⟨l,d,h,q⟩:=u;obtain⟨kvs,r,h⟩:=Sz.mp h;obtain⟨U,F,r⟩:=Sz.mp r;obtain⟨ns,I,h⟩:=Sz.mp h;obtain⟨W,N,rfl⟩:=S0.mp h;refine⟨l,_,F,λx T B S=>?_⟩;obtain⟨a,o',us,rfl,C,y⟩:=ly (RK.b k2 S λa n=>l.fresh n) r;have i:=l.ext B;refine⟨a,rfl,.inr ⟨us,.inr ⟨o',bU _ _ _ _ C⟩⟩,i,ns,I,λb V D E=>⟨i.ext D,_,N,λw p z L=>?_⟩⟩;have g:=D.trans z;have J:KRt X.K (vw p hid) us kvs:=⟨y.1,y.2.mono (aC g)⟩
  have j:p b=p5 (.tup ((iK ns).map kV)):=by rw[z _ _ E];unfold iK;rw[S4];rfl
  refine⟨_,.inr ⟨us,iK ns,b,.inr ⟨o',g _ _ (bU _ _ _ _ C)⟩,rfl,j,rfl⟩,q _ p (B.trans g) ?_⟩;rcases J.val (iK ns) with⟨k,t⟩|⟨v,d,k,t,M⟩
  ·rw[k,t];exact L
  ·rw[k,t];exact M
end
set_option maxHeartbeats 4000000
def top(i:Nat):Stmt:=Yv.main.body.getD i (.Pass ⟨0,0,0,0⟩)
abbrev fY:Stmt:=top 1
abbrev iQ:Stmt:=top 2
abbrev jr:Stmt:=top 4
abbrev lV:Stmt:=top 5
abbrev sn:Stmt:=top 6
abbrev p6:Stmt:=top 7
abbrev we:Stmt:=top 8
abbrev sU:Stmt:=top 9
abbrev oQ:Stmt:=top 10
abbrev rA:Stmt:=top 11
abbrev lJ:Stmt:=top 12
abbrev Am:Stmt:=top 14
abbrev jC:Stmt:=top 15
abbrev w6:Stmt:=top 16
abbrev p8:Stmt:=top 18
abbrev kJ:Stmt:=top 20
abbrev nu:Stmt:=top 21
abbrev Ar:Stmt:=top 22
abbrev pO:Stmt:=top 23
abbrev A9:Stmt:=top 24
abbrev HQ:Stmt:=top 25
abbrev sZ:Stmt:=top 26
abbrev fJ:Stmt:=top 28
abbrev iT:Stmt:=top 29
abbrev A4:Stmt:=top 30
abbrev pS:Stmt:=top 32
abbrev sM:Stmt:=top 33
abbrev pU:Stmt:=top 34
abbrev mZ:Stmt:=top 35
abbrev kh:Stmt:=top 36
abbrev nJ:Stmt:=top 37
abbrev rM:Stmt:=top 38
abbrev ki:Stmt:=top 39
abbrev ny:Stmt:=top 40
abbrev nM:Stmt:=top 41
abbrev qx:Stmt:=top 42
abbrev k7:Stmt:=top 43
abbrev qf:Stmt:=top 44
abbrev sN:Stmt:=top 45
abbrev iq:Stmt:=top 46
abbrev ka:Stmt:=top 47
structure Bt(K:SA)(mg:Str->Option Sw):Prop where
 b_abs:mg "abs"=Sr
 b_all:mg "all"=Sr
 b_any:mg "any"=Sr
 b_bool:mg "bool"=Sr
 b_enumerate:mg "enumerate"=Sr
 b_int:mg "int"=Sr
 b_isinstance:mg "isinstance"=Sr
 b_len:mg "len"=Sr
 b_list:mg "list"=Sr
 b_min:mg "min"=Sr
 b_range:mg "range"=Sr
 b_set:mg "set"=Sr
 b_sorted:mg "sorted"=Sr
 b_tuple:mg "tuple"=Sr
 b_zip:mg "zip"=Sr
 d_order_exchanged:Df K mg "order_exchanged" fY ["order","one","other"]
 d_order_rounds:Df K mg "order_rounds" iQ ["order"]
 d_places_from:Df K mg "places_from" jr La
 d_columns_of:Df K mg "columns_of" lV wd
 d_rows_of:Df K mg "rows_of" sn wd
 d_cells_of:Df K mg "cells_of" p6 wd
 d_behind:Df K mg "behind" we wd
 d_is_bare:Df K mg "is_bare" sU wd
 d_is_clear:Df K mg "is_clear" oQ zm
 d_is_step:Df K mg "is_step" rA zm
 d_steps_from:Df K mg "steps_from" lJ wh
 d_added:Df K mg "added" Am ["one","other"]
 d_oddly_often:Df K mg "oddly_often" jC ["stands"]
 d_border:Df K mg "border" w6 ["square","crowd"]
 d_lines_of:Df K mg "lines_of" p8 ["square"]
 d_all_stands:Df K mg "all_stands" kJ ["n"]
 d_points_of:Df K mg "points_of" nu ["order","half"]
 d_pairs:Df K mg "pairs" Ar ["ones","others"]
 d_grade_by:Df K mg "grade_by" pO ["marks","stand"]
 d_grade:Df K mg "grade" A9 wh
 d_lean:Df K mg "lean" HQ wh
 d_home_of:Df K mg "home_of" sZ wh
 d_cycles_and_leads:Df K mg "cycles_and_leads" fJ ["square"]
 d_class_stands:Df K mg "class_stands" iT ["cycles","leads"]
 d_table:Df K mg "table" A4 ["square"]
 d_law_cell:Df K mg "_law_cell" pS IH
 d_law_bag:Df K mg "_law_bag" sM ["_law_script","_law_at"]
 d_law_take:Df K mg "_law_take" pU Lb
 d_law_order:Df K mg "_law_order" mZ zq
 d_law_square:Df K mg "_law_square" kh zq
 d_law_wound:Df K mg "_law_wound" nJ ["_law_bag_here"]
 d_law_all:Df K mg "_law_all" rM ["_law_n"]
 d_law_rounds:Df K mg "_law_rounds" ki ["_law_square_here"]
 d_law_grade:Df K mg "_law_grade" ny ["_law_marks","_law_stand"]
 d_law_homes:Df K mg "_law_homes" nM Fz
 d_law_free:Df K mg "_law_free" qx zS
 d_law_border:Df K mg "_law_border" k7 A0
 d_law_rank:Df K mg "_law_rank" qf ["_law_numbers"]
 d_law_due:Df K mg "_law_due" sN ["_law_square_here"]
 d_law_is_three:Df K mg "_law_is_three" iq ["_law_thing"]
def Qd(k:Nat)(x:Str)(b:List Str)(sp:SA->Sp):Prop:= ∀ {P:S9} {w:Tu} {K:SA} {a:Str->Option Sw} {base:Heap} (B:Bt K a),Cl P w K a base k x b (sp K)
theorem Ra:(["size","start","end","further"]:List Str).Nodup:=by decide+kernel
theorem Oq:(["stand","a","b","rows","column","row"]:List Str).Nodup:=by decide+kernel
theorem Q1:(["stand","a","b","bars","heights","bar"]:List Str).Nodup:=by decide+kernel
theorem P6:(B1:List Str).Nodup:=by decide+kernel
theorem Os:(["square","stand","bars","a","b"]:List Str).Nodup:=by decide+kernel
theorem Je:(["square","crowd","stand","a","b","end"]:List Str).Nodup:=by decide+kernel
theorem Q0:(["square","rings","crosses","ring"]:List Str).Nodup:=by decide+kernel
theorem OW:(["n","stands","bar","stand","height"]:List Str).Nodup:=by decide+kernel
theorem Pn:(["order","half","place","number"]:List Str).Nodup:=by decide+kernel
theorem Ka:(["ones","others","right","up","x","y"]:List Str).Nodup:=by decide+kernel
theorem Oi:(["cycles","leads","stand"]:List Str).Nodup:=by decide+kernel
theorem LR:(B2:List Str).Nodup:=by decide+kernel
theorem PF:(w4:List Str).Nodup:=by decide+kernel
theorem Oe:(B3:List Str).Nodup:=by decide+kernel
theorem OR:(E1:List Str).Nodup:=by decide+kernel
theorem P9:(zW:List Str).Nodup:=by decide+kernel
theorem PM:(["_law_thing","_law_number"]:List Str).Nodup:=by decide+kernel
theorem PB:(zk:List Str).Nodup:=by decide+kernel
section
variable {K:SA}
theorem h7:bg ["order","one","other","numbers"] ["order","one","other"] (av fY):=by refine⟨rfl,rfl,rfl,?_,rfl,?_,?_⟩<;>decide+kernel
def fZ(m:List D->Option D):Prop:=Qd 1 "order_exchanged" ["order","one","other"] λK=>(spP K .s 3 m)
def iv: {t:FS // fZ (bL .s 4 t)}:=⟨_,λB=>by exact aL (k:=0) B.d_order_exchanged h7 () rfl λ_ b A a s H hid E c=>(ai (cX 3 h7.nd (cb lR Br B.b_list (aI (ae 0) aX) (hv:=by kernel_rfl)))
 (ai (lY (DP.ef (cf (ag (aO aD aN (ae 0) (ae 2) (λ_ _=>rfl)) (ag (aO aD aN (ae 0) (ae 1) (λ_ _=>rfl)) ak)))) (tS (n:=2) rfl (gI (fm 3 (ae 1)) (gI (fm 3 (ae 2)) uE))))
 (am (aQ (cb cE iL B.b_tuple (aI (cB 3) aX) (hv:=by kernel_rfl))))))⟩
def kG:FS:=iv.1
def kA:List D->Option D:=bL .s 4 kG
theorem lU:fZ kA:=iv.2
theorem er:bg ["order","rounds","start","places"] ["order"] (av iQ):=by refine⟨rfl,rfl,rfl,?_,rfl,?_,?_⟩<;>decide+kernel
def iE(m:List D->Option D):Prop:=Qd 1 "order_rounds" ["order"] λK=>(spP K .n 1 m)
def kn: {t:FS // iE (bL .n 4 t)}:=⟨_,λB=>by exact aL (k:=0) B.d_order_rounds er () rfl λ_ c A a s H hid E b=>(ai (cX 1 er.nd (df ak))
 (ai (cv Ti rfl (DIp.e (bv B.b_range (ag (aR aG ck B.b_len (aI (ae 0) aX) (hv:=by kernel_rfl)) ak))) (aw 2 er.nd) (ai (cX 3 er.nd (df (ag (ae 2) ak)))
 (ai (gO 16 Ti (bD (j4 b.units) pN (aO aD aN (ae 0) (aO aD aN (cB 3) (kN aq) (λ_ _=>rfl)) (λ_ _=>rfl)) (ae 2) (bm _)) (am (eL (g6 3 gP dL UH UI (DA.gf (ag (aO aD aN (ae 0) (aO aD aN (cB 3) (kN aq) (λ_ _=>rfl)) (λ_ _=>rfl)) ak))))))
 (am (eW (bD (mG b.units) sF (aR (Cz rfl) JJ B.b_min (aI (cB 3) aX) (hv:=by kernel_rfl)) (ae 2) (bm _)) (am (F6 3 (eL (g6 1 gP dL UH UI (DA.gf (ag (ae 3) ak)))))) cI)))))
 (am (lK 1))))⟩
def pL:FS:=kn.1
def pM:List D->Option D:=bL .n 4 pL
theorem p9:iE pM:=kn.2
theorem qh:bg La La (av jr):=by refine⟨rfl,rfl,rfl,?_,rfl,?_,?_⟩<;>decide+kernel
def jv(m:List D->Option D):Prop:=Qd 1 "places_from" La λK=>(spP K .n 3 m)
def lF: {t:FS // jv (bL .n 3 t)}:=⟨_,λB=>by exact aL (k:=0) B.d_places_from qh () rfl λ_ c A a s H hid E d=>(am (aQ (eJ (N':=["size","start","end","further"]) rfl (bu (SE rfl)) (DIp.b (bv B.b_range (ag (cj (b7 (ae 2) (ae 1)) (ae 0)) ak))) (λ_ _ _ _=>(aw 3 Ra)) (λ_ _ _ _=>bQ) (λ_ _ _ _=>(cj (bO (ae 1) (ae 3)) (ae 0))))))⟩
def qV:FS:=lF.1
def qK:List D->Option D:=bL .n 3 qV
theorem jB:jv qK:=lF.2
theorem qQ:bg wd wd (av lV):=by refine⟨rfl,rfl,rfl,?_,rfl,?_,?_⟩<;>decide+kernel
def kL(m:List D->Option D):Prop:=Qd 2 "columns_of" wd λK=>(spP K .n 3 m)
def m4: {t:FS // kL (bL .n 3 t)}:=⟨_,λB=>by exact aL (k:=1) B.d_columns_of qQ () rfl λ_ b A a s H hid E c=>(am (aQ (a9 (jB B) (c.mono ()) (ag (aR aG ck B.b_len (aI (ae 0) aX) (hv:=by kernel_rfl)) (ag (ae 1) (ag (ae 2) ak))))))⟩
def uZ:FS:=m4.1
def tL:List D->Option D:=bL .n 3 uZ
theorem lg:kL tL:=m4.2
theorem ze:bg wd wd (av sn):=by refine⟨rfl,rfl,rfl,?_,rfl,?_,?_⟩<;>decide+kernel
def rn(m:List D->Option D):Prop:=Qd 2 "rows_of" wd λK=>(spP K .n 3 m)
def rl: {t:FS // rn (bL .n 3 t)}:=⟨_,λB=>by exact aL (k:=1) B.d_rows_of ze () rfl λ_ b A a s H hid E c=>(am (aQ (a9 (jB B) (c.mono ()) (ag (aR aG ck B.b_len (aI (ae 0) aX) (hv:=by kernel_rfl)) (ag (aO aD aN (ae 0) (ae 1) (λ_ _=>rfl)) (ag (aO aD aN (ae 0) (ae 2) (λ_ _=>rfl)) ak))))))⟩
def D2:FS:=rl.1
def CI:List D->Option D:=bL .n 3 D2
theorem sP:rn CI:=rl.2
theorem oi:bg ["stand","a","b","rows"] wd (av p6):=by refine⟨rfl,rfl,rfl,?_,rfl,?_,?_⟩<;>decide+kernel
def qF(m:List D->Option D):Prop:=Qd 3 "cells_of" wd λK=>(spP K .n 3 m)
def rd: {t:FS // qF (bL .n 4 t)}:=⟨_,λB=>by exact aL (k:=2) B.d_cells_of oi () rfl λ_ d A a s H hid E c=>(ai (aK 3 oi.nd (DP.toS (a9 (sP B) (c.mono ()) (ag (ae 0) (ag (ae 1) (ag (ae 2) ak))))))
 (am (aQ (aR wZ Cg B.b_sorted (aI (kM (N':=["stand","a","b","rows","column","row"]) rfl 5 (bu (SE rfl)) (DC (SE rfl)) (bu (SE rfl)) (DIp.b (dU (DP.toS (a9 (lg B) (c.mono ()) (ag (ae 0) (ag (ae 1) (ag (ae 2) ak))))))) (λ_ _ _ _=>(aw 4 Oq)) (λ_ _ _ _=>bQ) (λ_ _ _ _=>(dU (ae 3))) (λ_ _ _ _=>(aw 5 Oq)) (λ_ _ _ _=>bQ) (λ_ _ _ _=>(cf (ag (ae 4) (ag (ae 5) ak))))) aX) (hv:=by kernel_rfl)))))⟩
def zu:FS:=rd.1
def yE:List D->Option D:=bL .n 4 zu
theorem zK:qF yE:=rd.2
theorem Dh:bg wd wd (av we):=by refine⟨rfl,rfl,rfl,?_,rfl,?_,?_⟩<;>decide+kernel
def wQ(m:List D->Option D):Prop:=Qd 2 "behind" wd λK=>(spP K .s 3 m)
def t7: {t:FS // wQ (bL .s 3 t)}:=⟨_,λB=>by exact aL (k:=1) B.d_behind Dh () rfl λ_ b A a s H hid E c=>(am (aQ (a9 (lU B) (c.mono ()) (ag (ae 0) (ag (ae 1) (ag (ae 2) ak))))))⟩
def EQ:FS:=t7.1
def Gw:List D->Option D:=bL .s 3 EQ
theorem HX:wQ Gw:=t7.2
theorem lS:bg ["stand","a","b","bars","heights"] wd (av sU):=by refine⟨rfl,rfl,rfl,?_,rfl,?_,?_⟩<;>decide+kernel
def r8(m:List D->Option D):Prop:=Qd 3 "is_bare" wd λK=>(spP K .s 3 m)
def rk: {t:FS // r8 (bL .s 5 t)}:=⟨_,λB=>by exact aL (k:=2) B.d_is_bare lS () rfl λ_ d A a s H hid E c=>(ai (aK 3 lS.nd (DP.toS (Gr (a9 (lg B) (c.mono ()) (ag (ae 0) (ag (ae 1) (ag (ae 2) ak)))) (Ad aq) A8)))
 (ai (aK 4 lS.nd (DP.toS (Gr (a9 (sP B) (c.mono ()) (ag (ae 0) (ag (ae 1) (ag (ae 2) ak)))) (Ad aq) A8)))
 (am (aQ (yy (aR (wc rfl) Hf B.b_any (aI (eJ (N':=["stand","a","b","bars","heights","bar"]) rfl (bu (SE rfl)) (DIp.b (dU (ae 3))) (λ_ _ _ _=>(aw 5 Q1)) (λ_ _ _ _=>bQ) (λ_ _ _ _=>(fK (yQ c.units) (xT Pa) (aO aD aN (ae 0) (ae 5) (λ_ _=>rfl)) (ae 4) (by with_unfolding_all rfl)))) aX) (hv:=by kernel_rfl)))))))⟩
def DU:FS:=rk.1
def Cm:List D->Option D:=bL .s 5 DU
theorem Dr:r8 Cm:=rk.2
theorem i3:bg ["square","stand","a","b","rings","crosses","marked"] zm (av oQ):=by refine⟨rfl,rfl,rfl,?_,rfl,?_,?_⟩<;>decide+kernel
def pq(m:List D->Option D):Prop:=Qd 4 "is_clear" zm λK=>(spP K .s 4 m)
def rb: {t:FS // pq (bL .s 7 t)}:=⟨_,λB=>by exact aL (k:=3) B.d_is_clear i3 () rfl λ_ d A a s H hid E c=>(ai (pI (DP.ef (ae 0)) (cH (n:=2) rfl (aM (aw 4 i3.nd) (aM (aw 5 i3.nd) cK))))
 (ai (Aa 6 (N':=B1) rfl i3.nd (mE (bx (bu (SE rfl)) (bx (bu (SE rfl)) fE))) (DIp.b (dU (DP.toS (a9 (zK B) (c.mono ()) (ag (ae 1) (ag (ae 2) (ag (ae 3) ak))))))) (λ_ _ _ _=>(cH (n:=2) rfl (aM (aw 7 P6) (aM (aw 8 P6) cK)))) (λ_ _ _ _=>bQ) (λ_ _ _ _=>(fK (yQ c.units) (xT Pa) (ae 8) (cf (ag (aO aD aN (ae 4) (ae 7) (λ_ _=>rfl)) (ag (aO aD aN (ae 5) (ae 7) (λ_ _=>rfl)) ak))) (by with_unfolding_all rfl))))
 (am (aQ (yy (aR (wc rfl) Hf B.b_any (aI (ae 6) aX) (hv:=by kernel_rfl)))))))⟩
def zr:FS:=rb.1
def zN:List D->Option D:=bL .s 7 zr
theorem yW:pq zN:=rb.2
theorem zy:bg zm zm (av rA):=by refine⟨rfl,rfl,rfl,?_,rfl,?_,?_⟩<;>decide+kernel
def sJ(m:List D->Option D):Prop:=Qd 5 "is_step" zm λK=>(spP K .s 4 m)
def ry: {t:FS // sJ (bL .s 4 t)}:=⟨_,λB=>by exact aL (k:=4) B.d_is_step zy () rfl λ_ c A a s H hid E b=>(am (aQ (mx (a9 (Dr B) (b.mono ()) (ag (ae 1) (ag (ae 2) (ag (ae 3) ak)))) (l7 (a9 (yW B) (b.mono ()) (ag (ae 0) (ag (ae 1) (ag (ae 2) (ag (ae 3) ak)))))))))⟩
def Ch:FS:=ry.1
def C3:List D->Option D:=bL .s 4 Ch
theorem CG:sJ C3:=ry.2
theorem lL:bg ["square","stand","bars"] wh (av lJ):=by refine⟨rfl,rfl,rfl,?_,rfl,?_,?_⟩<;>decide+kernel
def k8(m:List D->Option D):Prop:=Qd 6 "steps_from" wh λK=>(spP K .n 2 m)
def m5: {t:FS // k8 (bL .n 3 t)}:=⟨_,λB=>by exact aL (k:=5) B.d_steps_from lL () rfl λ_ d A a s H hid E c=>(ai (aK 2 lL.nd (DP.toS (eN rfl B.b_list B.b_range (aR aG ck B.b_len (aI (ae 1) aX) (hv:=by kernel_rfl)))))
 (am (aQ (kM (N':=["square","stand","bars","a","b"]) rfl 4 (bu (SE rfl)) (DC (SE rfl)) (bu (SE rfl)) (DIp.b (dU (ae 2))) (λ_ _ _ _=>(aw 3 Os)) (λ_ _ _ _=>bQ) (λ_ _ _ _=>(dU (ae 2))) (λ_ _ _ _=>(aw 4 Os)) (λ_ _ _ _=>(kO (DW.dt (mw (bD (j4 c.units) pN (ae 3) (ae 4) (bm _)) (i0 (j6 (a9 (CG B) (c.mono ()) (ag (ae 0) (ag (ae 1) (ag (ae 3) (ag (ae 4) ak))))))))))) (λ_ _ _ _=>(cf (ag (ae 3) (ag (ae 4) (ag (a9 (HX B) (c.mono ()) (ag (ae 1) (ag (ae 3) (ag (ae 4) ak)))) ak)))))))))⟩
def uF:FS:=m5.1
def uR:List D->Option D:=bL .n 3 uF
theorem vh:k8 uR:=m5.2
theorem Ef:bg ["one","other"] ["one","other"] (av Am):=by refine⟨rfl,rfl,rfl,?_,rfl,?_,?_⟩<;>decide+kernel
def AE(m:List D->Option D):Prop:=Qd 1 "added" ["one","other"] λK=>(spP K .n 2 m)
def t5: {t:FS // AE (bL .n 2 t)}:=⟨_,λB=>by exact aL (k:=0) B.d_added Ef () rfl λ_ b A a s H hid E c=>(am (aQ (E8 0 1 rfl (Jp c) B.b_sorted B.b_set)))⟩
def vy:FS:=t5.1
def eY:List D->Option D:=bL .n 2 vy
theorem Bv:AE eY:=t5.2
theorem hV:bg ["stands","odd","stand"] ["stands"] (av jC):=by refine⟨rfl,rfl,rfl,?_,rfl,?_,?_⟩<;>decide+kernel
def jt(m:List D->Option D):Prop:=Qd 1 "oddly_often" ["stands"] λK=>(spP K .n 1 m)
def jf: {t:FS // jt (bL .n 3 t)}:=⟨_,λB=>by exact aL (k:=0) B.d_oddly_often hV () rfl λ_ c A a s H hid E b=>(ai (Jc 1 hV.nd B.b_set)
 (ai (cv Ti rfl (DIp.e (cY (ae 0))) (aw 2 hV.nd) (am (eW (JA 1 (dJ b) (ae 2)) (am (eL (JU 1 (dJ b) (ae 2)))) (am (eL (Jt 1 (dJ b) (ae 2)))))))
 (am (aQ (Jd 1 rfl B.b_sorted)))))⟩
def gk:FS:=jf.1
def jp:List D->Option D:=bL .n 3 gk
theorem qO:jt jp:=jf.2
theorem CJ:bg ["square","crowd"] ["square","crowd"] (av w6):=by refine⟨rfl,rfl,rfl,?_,rfl,?_,?_⟩<;>decide+kernel
def wL(m:List D->Option D):Prop:=Qd 7 "border" ["square","crowd"] λK=>(spP K .n 2 m)
def pf: {t:FS // wL (bL .n 2 t)}:=⟨_,λB=>by exact aL (k:=6) B.d_border CJ () rfl λ_ d A a s H hid E c=>(am (aQ (a9 (qO B) (c.mono ()) (ag (DP.toS (kM (N':=["square","crowd","stand","a","b","end"]) rfl 3 (bu (SE rfl)) (DC (SE rfl)) (mE (bx (bu (SE rfl)) (bx (bu (SE rfl)) (bx (bu (SE rfl)) fE)))) (DIp.b (cY (ae 1))) (λ_ _ _ _=>(aw 2 Je)) (λ_ _ _ _=>bQ) (λ_ _ _ _=>(cY (DP.toS (a9 (vh B) (c.mono ()) (ag (ae 0) (ag (ae 2) ak)))))) (λ_ _ _ _=>(cH (n:=3) rfl (aM (aw 3 Je) (aM (aw 4 Je) (aM (aw 5 Je) cK))))) (λ_ _ _ _=>bQ) (λ_ _ _ _=>(ae 5)))) ak))))⟩
def oI:FS:=pf.1
def iG:List D->Option D:=bL .n 2 oI
theorem Ic:wL iG:=pf.2
theorem lc:bg ["square","rings","crosses"] ["square"] (av p8):=by refine⟨rfl,rfl,rfl,?_,rfl,?_,?_⟩<;>decide+kernel
def o0(m:List D->Option D):Prop:=Qd 2 "lines_of" ["square"] λK=>(spP K .n 1 m)
def q4: {t:FS // o0 (bL .n 3 t)}:=⟨_,λB=>by exact aL (k:=1) B.d_lines_of lc () rfl λ_ d A a s H hid E c=>(ai (pI (DP.ef (ae 0)) (cH (n:=2) rfl (aM (aw 1 lc.nd) (aM (aw 2 lc.nd) cK))))
 (am (aQ (a9 (p9 B) (c.mono ()) (ag (DP.toS (eJ (N':=["square","rings","crosses","ring"]) rfl (bu (SE rfl)) (DIp.b (AZ (ae 1))) (λ_ _ _ _=>(aw 3 Q0)) (λ_ _ _ _=>bQ) (λ_ _ _ _=>(mQ c.units (ae 2) (ae 3))))) ak)))))⟩
def zM:FS:=q4.1
def pH:List D->Option D:=bL .n 3 zM
theorem zl:o0 pH:=q4.2
theorem g0:bg ["n","stands","bar"] ["n"] (av kJ):=by refine⟨rfl,rfl,rfl,?_,rfl,?_,?_⟩<;>decide+kernel
def kF(m:List D->Option D):Prop:=Qd 1 "all_stands" ["n"] λK=>(spP K .n 1 m)
def kb: {t:FS // kF (bL .n 3 t)}:=⟨_,λB=>by exact aL (k:=0) B.d_all_stands g0 () rfl λ_ b A a s H hid E c=>(QSs.to (lB (QS.of (cX 1 g0.nd (df (ag (cf ak) ak uT))))
 (lB (QS.of (cv Ti rfl (DIp.e (bv B.b_range (ag (ae 0) ak))) (aw 2 g0.nd) (am (FM 1 (N':=["n","stands","bar","stand","height"]) rfl g0.nd 4 (bu (SE rfl)) (DC (SE rfl)) (bu (SE rfl)) (xu (cB 1)) (λ_ _ _ _=>(aw 3 OW)) (λ_ _ _ _=>bQ) (λ_ _ _ _=>(bv B.b_range (ag (ae 0) ak))) (λ_ _ _ _=>(aw 4 OW)) (λ_ _ _ _=>(kO (bD (rV c.units) (xT S1) (ae 4) (ae 3) (by with_unfolding_all rfl)))) (λ_ _ _ _=>(Cc (ae 3) (cf (ag (ae 4) ak))))))))
 (AT (QS.of (lK 1))))))⟩
def gY:FS:=kb.1
def eX:List D->Option D:=bL .n 3 gY
theorem uy:kF eX:=kb.2
theorem tP:bg ["order","half"] ["order","half"] (av nu):=by refine⟨rfl,rfl,rfl,?_,rfl,?_,?_⟩<;>decide+kernel
def nG(m:List D->Option D):Prop:=Qd 1 "points_of" ["order","half"] λK=>(spP K .n 2 m)
def kz: {t:FS // nG (bL .n 2 t)}:=⟨_,λB=>by exact aL (k:=0) B.d_points_of tP () rfl λ_ c A a s H hid E d=>(am (aQ (eJ (N':=["order","half","place","number"]) rfl (mE (bx (bu (SE rfl)) (bx (bu (SE rfl)) fE))) (DIp.b (HD (ae 0) B.b_enumerate)) (λ_ _ _ _=>(cH (n:=2) rfl (aM (aw 2 Pn) (aM (aw 3 Pn) cK)))) (λ_ _ _ _=>bQ) (λ_ _ _ _=>(cf (ag (bO (iA aq (ae 2)) (ae 1)) (ag (bO (iA aq (ae 3)) (ae 1)) ak)))))))⟩
def iB:FS:=kz.1
def mY:List D->Option D:=bL .n 2 iB
theorem mV:nG mY:=kz.2
theorem Ee:bg ["ones","others"] ["ones","others"] (av Ar):=by refine⟨rfl,rfl,rfl,?_,rfl,?_,?_⟩<;>decide+kernel
def BH(m:List D->Option D):Prop:=Qd 1 "pairs" ["ones","others"] λK=>(spP K .s 2 m)
def se: {t:FS // BH (bL .s 2 t)}:=⟨_,λB=>by exact aL (k:=0) B.d_pairs Ee () rfl λ_ c A a s H hid E d=>(am (aQ (aR aG ck B.b_len (aI (kM (N':=["ones","others","right","up","x","y"]) rfl 4 (mE (bx (bu (SE rfl)) (bx (bu (SE rfl)) fE))) (Qt (xV (DC (SE rfl)) (xV (DC (SE rfl)) J4))) (mE (bx (bu (SE rfl)) (bx (bu (SE rfl)) fE))) (DIp.b (dU (ae 0))) (λ_ _ _ _=>(cH (n:=2) rfl (aM (aw 2 Ka) (aM (aw 3 Ka) cK)))) (λ_ _ _ _=>bQ) (λ_ _ _ _=>(dU (ae 1))) (λ_ _ _ _=>(cH (n:=2) rfl (aM (aw 4 Ka) (aM (aw 5 Ka) cK)))) (λ_ _ _ _=>(kO (DW.dt (mw (bD ii dP (ae 2) (ae 4) (bm _)) (i0 (bD ii dP (ae 3) (ae 5) (bm _))))))) (λ_ _ _ _=>sx)) aX) (hv:=by kernel_rfl))))⟩
def vq:FS:=se.1
def uc:List D->Option D:=bL .s 2 vq
theorem oz:BH uc:=se.2
theorem lm:bg ["marks","stand","rooks","points"] ["marks","stand"] (av pO):=by refine⟨rfl,rfl,rfl,?_,rfl,?_,?_⟩<;>decide+kernel
def pT(m:List D->Option D):Prop:=Qd 2 "grade_by" ["marks","stand"] λK=>(spP K .s 2 m)
def mA: {t:FS // pT (bL .s 4 t)}:=⟨_,λB=>by exact aL (k:=1) B.d_grade_by lm () rfl λ_ c A b s H hid E a=>(ai (aK 2 lm.nd (DP.toS (a9 (mV B) (a.mono ()) (ag (ae 1) (ag aq ak)))))
 (ai (aK 3 lm.nd (DP.toS (a9 (mV B) (a.mono ()) (ag (ae 0) (ag aq ak)))))
 (am (aQ (bO (bO (b7 (b7 (a9 (oz B) (a.mono ()) (ag (ae 2) (ag (ae 2) ak))) (a9 (oz B) (a.mono ()) (ag (ae 2) (ag (ae 3) ak)))) (a9 (oz B) (a.mono ()) (ag (ae 3) (ag (ae 2) ak)))) (a9 (oz B) (a.mono ()) (ag (ae 3) (ag (ae 3) ak)))) aq)))))⟩
def jX:FS:=mA.1
def ql:List D->Option D:=bL .s 4 jX
theorem jE:pT ql:=mA.2
theorem El:bg wh wh (av A9):=by refine⟨rfl,rfl,rfl,?_,rfl,?_,?_⟩<;>decide+kernel
def AO(m:List D->Option D):Prop:=Qd 3 "grade" wh λK=>(spP K .s 2 m)
def so: {t:FS // AO (bL .s 2 t)}:=⟨_,λB=>by exact aL (k:=2) B.d_grade El () rfl λ_ b A a s H hid E c=>(am (aQ (a9 (jE B) (c.mono ()) (ag (aO aD aN (ae 0) aq (λ_ _=>rfl)) (ag (ae 1) ak)))))⟩
def tR:FS:=so.1
def BK:List D->Option D:=bL .s 2 tR
theorem JC:AO BK:=so.2
theorem pa:bg ["square","stand","rings","crosses","unlike"] wh (av HQ):=by refine⟨rfl,rfl,rfl,?_,rfl,?_,?_⟩<;>decide+kernel
def Ey(m:List D->Option D):Prop:=Qd 3 "lean" wh λK=>(spP K .s 2 m)
def uk: {t:FS // Ey (bL .s 5 t)}:=⟨_,λB=>by exact aL (k:=2) B.d_lean pa () rfl λ_ c A a s H hid E b=>(ai (pI (DP.ef (ae 0)) (cH (n:=2) rfl (aM (aw 2 pa.nd) (aM (aw 3 pa.nd) cK))))
 (ai (aK 4 pa.nd (b7 (a9 (jE B) (b.mono ()) (ag (ae 2) (ag (ae 1) ak))) (a9 (jE B) (b.mono ()) (ag (ae 3) (ag (ae 1) ak)))))
 (am (aQ (bO (b7 (ae 4) (aR aG ck B.b_len (aI (ae 2) aX) (hv:=by kernel_rfl))) (aR aG ck B.b_len (aI (a9 (zl B) (b.mono ()) (ag (ae 0) ak)) aX) (hv:=by kernel_rfl)))))))⟩
def yC:FS:=uk.1
def G9:List D->Option D:=bL .s 5 yC
theorem NM:Ey G9:=uk.2
theorem zd:bg wh wh (av sZ):=by refine⟨rfl,rfl,rfl,?_,rfl,?_,?_⟩<;>decide+kernel
def ss(m:List D->Option D):Prop:=Qd 4 "home_of" wh λK=>(spP K .s 2 m)
def ro: {t:FS // ss (bL .s 2 t)}:=⟨_,λB=>by exact aL (k:=3) B.d_home_of zd () rfl λ_ c A a s H hid E b=>(am (aQ (cf (ag (a9 (JC B) (b.mono ()) (ag (ae 0) (ag (ae 1) ak))) (ag (a9 (NM B) (b.mono ()) (ag (ae 0) (ag (ae 1) ak))) ak)))))⟩
def rR:FS:=ro.1
def mB:List D->Option D:=bL .s 2 rR
theorem Dn:ss mB:=ro.2
theorem cp:bg ["square","cycles","leads","stand","crowd","edge","other","other_edge"] ["square"] (av fJ):=by refine⟨rfl,rfl,rfl,?_,rfl,?_,?_⟩<;>decide+kernel
def fP(m:List D->Option D):Prop:=Qd 8 "cycles_and_leads" ["square"] λK=>(spP K .s 1 m)
def il: {t:FS // fP (bL .s 8 t)}:=⟨_,λB=>by exact aL (k:=7) B.d_cycles_and_leads cp () rfl λ_ c A b s H hid E a=>(ai (iJ 1 cp.nd)
 (ai (iJ 2 cp.nd)
 (ai (cv Ti rfl (DIp.e (cY (DP.toS (a9 (uy B) (a.mono ()) (ag (aR aG ck B.b_len (aI (aO aD aN (ae 0) aq (λ_ _=>rfl)) aX) (hv:=by kernel_rfl)) ak))))) (aw 3 cp.nd) (ai (EA 4 5 rfl cp.nd (ag (DP.toS (df (ag (ae 3) ak))) (ag (DP.toS (a9 (Ic B) (a.mono ()) (ag (ae 0) (ag (DP.toS (df (ag (ae 3) ak))) ak)))) ak)))
 (ai (gO 130 Ti (DW.dt (mw (j6 (ae 5)) (i0 (J2 2 (dJ a) (aO aD aN (ae 5) (kN aq) (λ_ _=>rfl)))))) (ai (pI (DP.ef (Be 2 (dJ a) (aO aD aN (ae 5) (kN aq) (λ_ _=>rfl)) (λ_ _=>rfl))) (cH (n:=2) rfl (aM (aw 6 cp.nd) (aM (aw 7 cp.nd) cK))))
 (am (EA 4 5 rfl cp.nd (ag (DP.toS (a9 (Bv B) (a.mono ()) (ag (ae 4) (ag (ae 6) ak)))) (ag (DP.toS (a9 (Bv B) (a.mono ()) (ag (ae 5) (ag (ae 7) ak)))) ak))))))
 (am (eW (j6 (ae 5)) (am (lE 2 (dJ a) (jF (aO aD aN (ae 5) (kN aq) (λ_ _=>rfl))) (cf (ag (ae 4) (ag (ae 5) ak))))) (am (lE 1 (dJ a) (jF (ae 3)) (ae 4))))))))
 (am (x8 1 (x8 2 (aQ (cf (ag (ae 1) (ag (ae 2) ak))))))))))⟩
def dI:FS:=il.1
def dA:List D->Option D:=bL .s 8 dI
theorem jG:fP dA:=il.2
theorem nR:bg ["cycles","leads"] ["cycles","leads"] (av iT):=by refine⟨rfl,rfl,rfl,?_,rfl,?_,?_⟩<;>decide+kernel
def iO(m:List D->Option D):Prop:=Qd 1 "class_stands" ["cycles","leads"] λK=>(spP K .n 2 m)
def hY: {t:FS // iO (bL .n 2 t)}:=⟨_,λB=>by exact aL (k:=0) B.d_class_stands nR () rfl λ_ c A a s H hid E d=>(am (aQ (eJ (N':=["cycles","leads","stand"]) rfl (bu (SE rfl)) (DIp.b (GQ (ae 0))) (λ_ _ _ _=>(aw 2 Oi)) (λ_ _ _ _=>(kO (y0 (dJ d) (jF (ae 2)) (ae 1)))) (λ_ _ _ _=>(ae 2)))))⟩
def fO:FS:=hY.1
def fU:List D->Option D:=bL .n 2 fO
theorem qd:iO fU:=hY.2
theorem jl:bg ["square","cycles","leads","found","stand","home"] ["square"] (av A4):=by refine⟨rfl,rfl,rfl,?_,rfl,?_,?_⟩<;>decide+kernel
def AW(m:List D->Option D):Prop:=Qd 9 "table" ["square"] λK=>(spP K .n 1 m)
def t4: {t:FS // AW (bL .n 6 t)}:=⟨_,λB=>by exact aL (k:=8) B.d_table jl () rfl λ_ d A c s H hid E a=>(ai (pI (DP.ef (a9 (jG B) (a.mono ()) (ag (ae 0) ak))) (cH (n:=2) rfl (aM (aw 1 jl.nd) (aM (aw 2 jl.nd) cK))))
 (ai (iJ 3 jl.nd)
 (ai (cv Ti rfl (DIp.e (cY (DP.toS (a9 (qd B) (a.mono ()) (ag (ae 1) (ag (ae 2) ak)))))) (aw 4 jl.nd) (ai (aK 5 jl.nd (a9 (Dn B) (a.mono ()) (ag (ae 0) (ag (ae 4) ak))))
 (am (lE 3 (dJ a) (jF (ae 5)) (bO (Hv 3 (dJ a) (jF (ae 5)) aq ⟨rfl,rfl,rfl,rfl⟩) aq)))))
 (am (aQ (eJ (N':=B2) rfl (mE (bx (bu (SE rfl)) (bx (bu (SE rfl)) fE))) (DIp.b (cY (DP.toS (GK 3 rfl B.b_sorted)))) (λ_ _ _ _=>(cH (n:=2) rfl (aM (aw 6 LR) (aM (aw 7 LR) cK)))) (λ_ _ _ _=>bQ) (λ_ _ _ _=>(cf (ag (ae 6) (ag (ae 7) (ag (Be 3 (dJ a) (cf (ag (ae 6) (ag (ae 7) ak))) (λ_ _=>rfl)) ak)))))))))))⟩
def uA:FS:=t4.1
def gX:List D->Option D:=bL .n 6 uA
theorem Ak:AW gX:=t4.2
theorem ww:bg IH IH (av pS):=by refine⟨rfl,rfl,rfl,?_,rfl,?_,?_⟩<;>decide+kernel
def pB(m:List D->Option D):Prop:=Qd 1 "_law_cell" IH λK=>(spP K .s 2 m)
def q5: {t:FS // pB (bL .s 2 t)}:=⟨_,λB=>by exact aL (k:=0) B.d_law_cell ww () rfl λ_ b A a s H hid E c=>(ai (eW (bD ii dP (ae 1) (aR aG ck B.b_len (aI (ae 0) aX) (hv:=by kernel_rfl)) (bm _)) (am (aQ (aO aD aN (ae 0) (ae 1) (λ_ _=>rfl)))) cI)
 (am (aQ aq)))⟩
def zQ:FS:=q5.1
def zL:List D->Option D:=bL .s 2 zQ
theorem y9:pB zL:=q5.2
theorem hU:bg ["_law_script","_law_at","_law_cell_here","_law_mix","_law_k"] ["_law_script","_law_at"] (av sM):=by refine⟨rfl,rfl,rfl,?_,rfl,?_,?_⟩<;>decide+kernel
def su(m:List D->Option D):Prop:=Qd 2 "_law_bag" ["_law_script","_law_at"] λK=>(spP K .n 2 m)
def r0: {t:FS // su (bL .n 5 t)}:=⟨_,λB=>by exact aL (k:=1) B.d_law_bag hU () rfl λ_ b A a s H hid E c=>(ai (aK 2 hU.nd (cj (aR FD Mz B.b_abs (aI (a9 (y9 B) (c.mono ()) (ag (ae 0) (ag (ae 1) ak))) aX) (hv:=by kernel_rfl)) (iA (iA (l0 aq aq) (l0 aq aq)) (l0 aq aq))))
 (ai (eW (bD Pc dP (ae 2) (l0 aq aq) (bm _)) (am (aQ (df (ag (ae 2) (ag aq ak))))) cI)
 (ai (aK 3 hU.nd (cj (bO (bO (ae 2) (iA aq (ae 1))) aq) aq))
 (ai (cv Ti rfl (DIp.e (bv B.b_range (ag (aR (Cn rfl) JT B.b_min (aI (aR aG ck B.b_len (aI (ae 0) aX) (hv:=by kernel_rfl)) (aI aq aX)) (hv:=by kernel_rfl)) ak))) (aw 4 hU.nd) (am (aK 3 hU.nd (cj (bO (bO (l0 (ae 3) aq) (cj (aO aD aN (ae 0) (ae 4) (λ_ _=>rfl)) aq)) (iA aq (ae 4))) aq))))
 (am (aQ (df (ag (ae 3) (ag aq ak)))))))))⟩
def CL:FS:=r0.1
def mI:List D->Option D:=bL .n 5 CL
theorem DR:su mI:=r0.2
theorem ot:bg ["_law_bag_here","_law_many","_law_digit"] Lb (av pU):=by refine⟨rfl,rfl,rfl,?_,rfl,?_,?_⟩<;>decide+kernel
def zJ:FS:=
 aF (gm (bJ (ar vL (ar bt (cR 0) (aH (.int 1))) (aH (.int 0)))) (aF (br 2 (ar bp (ar bt (cR 0) (aH (.int 0))) (ah 1)))
 (aF (eF (cA 0 (aH (.int 0))) (pu (ar k9 (ar bt (cR 0) (aH (.int 0))) (ah 1))))
 (bX (ah 2)))) (el))
 (aF (eF (cA 0 (aH (.int 0))) (pu (ar bp (ar bG (ar bG (ar ft (ar bt (cR 0) (aH (.int 0))) (aH (.int 5))) (ar eV (aH (.int 48271)) (ar bt (cR 0) (aH (.int 1))))) (aH (.int 11))) (aH (.int 2147483647)))))
 (aF (eF (cA 0 (aH (.int 1))) (pu (ar bG (ar bt (cR 0) (aH (.int 1))) (aH (.int 1)))))
 (bX (ar bp (ar k9 (ar bp (ar eV (ar bt (cR 0) (aH (.int 0))) (aH (.int 69621))) (aH (.int 2147483629))) (aH (.int 8))) (ah 1)))))
def b8:List D->List D->Option (D×List D):=xZ .s 3 zJ
theorem eC(B:Bt K mg):Cl P w K mg base 1 "_law_take" Lb (spE K .s 1 b8):=by
 refine uQ (k:=0) B.d_law_take ot () rfl λ_ c A b s H hid a E d=>?_
 exact(ai (eW (bD (mG d.units) sF (aO aD aN (cB 0) aq (λ_ _=>rfl)) aq (bm _)) (ai (aK 2 ot.nd (cj (aO aD aN (cB 0) aq (λ_ _=>rfl)) (ae 1)))
  (ai (lY (DP.ef (z9 (aO aD aN (cB 0) aq (λ_ _=>rfl)) (ae 1))) (fm 0 aq))
  (am (aQ (ae 2))))) cI)
  (ai (lY (DP.ef (cj (bO (bO (l0 (aO aD aN (cB 0) aq (λ_ _=>rfl)) aq) (iA aq (aO aD aN (cB 0) aq (λ_ _=>rfl)))) aq) aq)) (fm 0 aq))
  (ai (lY (DP.ef (bO (aO aD aN (cB 0) aq (λ_ _=>rfl)) aq)) (fm 0 aq))
  (am (aQ (cj (z9 (cj (iA (aO aD aN (cB 0) aq (λ_ _=>rfl)) aq) aq) aq) (ae 1)))))))
theorem j1:bg ["_law_bag_here","_law_n","_law_left","_law_found"] zq (av mZ):=by refine⟨rfl,rfl,rfl,?_,rfl,?_,?_⟩<;>decide+kernel
def wO:FS:=
 aF (dh 2 (HH (ah 1)))
 (aF (dh 3 (cD (aj)))
 (aF (jA (bJ (ar uD (cR 2) (cD (aj)))) (cz (aV 3 1 mj (ia (aV 2 1 rg (ia (aV 0 1 b8 (c8 (af (au dO (af (cR 2) (aj))) (aj)))) (c8 (aj)))) (c8 (aj))))) 16)
 (C8 3)))
def iW:List D->List D->Option (D×List D):=xZ .n 4 wO
theorem nH(B:Bt K mg):Cl P w K mg base 2 "_law_order" zq (spE K .n 1 iW):=by
 refine uQ (k:=1) B.d_law_order j1 () rfl λ_ d A b s H hid a E c=>?_
 exact(ai (cX 2 j1.nd (eN rfl B.b_list B.b_range (ae 1)))
  (ai (cX 3 j1.nd (df ak))
  (ai (gO 16 Ti (bD (j4 c.units) pN (cB 2) (df ak) (bm _)) (am (eL (g6 3 gP dL UH UI (A1 (g6 2 NF FI PySem.F.slot_list_pop PySem.F.type_list_pop (A1 (jy 0 (eC B) (c.mono ()) (DA.gf (ag (aR aG ck B.b_len (aI (cB 2) aX) (hv:=by kernel_rfl)) ak))) (DA.gf ak))) (DA.gf ak))))))
  (am (lK 3)))))
theorem dc:bg ["_law_bag_here","_law_n","_law_plain","_law_by","_law_rings","_law_crosses","_law_c","_law_d"] zq (av kh):=by refine⟨rfl,rfl,rfl,?_,rfl,?_,?_⟩<;>decide+kernel
def tN:FS:=
 aF (fM 2 (aV 0 1 b8 (c8 (af (aH (.int 4)) (aj)))))
 (aF (fM 3 (oM bG (pu (aH (.int 1))) (aV 0 1 b8 (c8 (af (ar cw (ah 1) (aH (.int 1))) (aj))))))
 (aF (fM 4 (aV 0 1 iW (c8 (af (ah 1) (aj)))))
 (aF (yn 5 (aV 0 1 iW (c8 (af (ah 1) (aj)))))
 (aF (gm (bJ (ar vL (ah 2) (aH (.int 1)))) (aF (br 4 (HH (ah 1)))
 (dh 5 (bT 1 (nQ (ah 4)) (gN 8) (fG) (ar bp (ar bG (ah 8) (ah 3)) (ah 1))))) (el))
 (aF (h8 (c8 (cL (af (ah 1) (aj)))) (gN 6) (aF (br 7 (ar bp (ar bG (ah 6) (aH (.int 1))) (ah 1)))
 (gm (bJ (ar vL (ar bt (cR 5) (ah 6)) (ar bt (ah 4) (ah 6)))) (eF (gT 2 (ij (cA 5 (ah 6)) (ij (cA 5 (ah 7)) (m9)))) (pu (cQ (af (ar bt (cR 5) (ah 7)) (af (ar bt (cR 5) (ah 6)) (aj)))))) (el))))
 (bX (cQ (af (au g9 (af (ah 4) (aj))) (af (au g9 (af (cR 5) (aj))) (aj))))))))))
def gV:List D->List D->Option (D×List D):=xZ .s 8 tN
theorem vk(B:Bt K mg):Cl P w K mg base 3 "_law_square" zq (spE K .s 1 gV):=by
 refine uQ (k:=2) B.d_law_square dc () rfl λ_ f A d s H hid a E c=>?_
 exact(ai (gg 2 dc.nd (jy 0 (eC B) (c.mono ()) (DA.gf (ag aq ak))))
  (ai (gg 3 dc.nd (GS (DP.ef aq) (jy 0 (eC B) (c.mono ()) (DA.gf (ag (b7 (ae 1) aq) ak)))))
  (ai (gg 4 dc.nd (DE.toS (jy 0 (nH B) (c.mono ()) (DA.gf (ag (ae 1) ak)))))
  (ai (JN 5 dc.nd (jy 0 (nH B) (c.mono ()) (DA.gf (ag (ae 1) ak))))
  (ai (eW (bD (mG c.units) sF (ae 2) aq (bm _)) (ai (aK 4 dc.nd (DP.toS (eN rfl B.b_list B.b_range (ae 1))))
  (am (K9 5 (N':=w4) rfl dc.nd (bu (SE rfl)) (DIp.b (cY (ae 4))) (λ_ _ _ _=>(aw 8 PF)) (λ_ _ _ _=>bQ) (λ_ _ _ _=>(cj (bO (ae 8) (ae 3)) (ae 1)))))) cI)
  (ai (cv Ti rfl (DIp.e (bv B.b_range (ag (ae 1) ak))) (aw 6 dc.nd) (ai (aK 7 dc.nd (cj (bO (ae 6) aq) (ae 1)))
  (am (eW (bD (mG c.units) sF (aO aD aN (cB 5) (ae 6) (λ_ _=>rfl)) (aO aD aN (ae 4) (ae 6) (λ_ _=>rfl)) (bm _)) (am (lY (DP.ef (cf (ag (aO aD aN (cB 5) (ae 7) (λ_ _=>rfl)) (ag (aO aD aN (cB 5) (ae 6) (λ_ _=>rfl)) ak)))) (tS (n:=2) rfl (gI (fm 5 (ae 6)) (gI (fm 5 (ae 7)) uE))))) cI))))
  (am (aQ (cf (ag (cb cE iL B.b_tuple (aI (ae 4) aX) (hv:=by kernel_rfl)) (ag (cb cE iL B.b_tuple (aI (cB 5) aX) (hv:=by kernel_rfl)) ak)))))))))))
theorem hI:bg ["_law_bag_here","_law_by","_law_k","_law_rings"] ["_law_bag_here"] (av nJ):=by refine⟨rfl,rfl,rfl,?_,rfl,?_,?_⟩<;>decide+kernel
def iP:FS:=
 aF (fM 1 (oM bG (pu (aH (.int 2))) (aV 0 1 b8 (c8 (af (aH (.int 2)) (aj))))))
 (aF (fM 2 (aV 0 1 b8 (c8 (af (aH (.int 5)) (aj)))))
 (aF (br 3 (bT 1 (cL (af (aH (.int 5)) (aj))) (gN 4) (fG) (ar bp (ar bG (ah 4) (ah 2)) (aH (.int 5)))))
 (bX (cQ (af (au g9 (af (ah 3) (aj))) (af (au g9 (af (bT 1 (nQ (ah 3)) (gN 4) (fG) (ar bp (ar bG (ah 4) (ah 1)) (aH (.int 5)))) (aj))) (aj)))))))
def f8:List D->List D->Option (D×List D):=xZ .s 4 iP
theorem xA(B:Bt K mg):Cl P w K mg base 2 "_law_wound" ["_law_bag_here"] (spE K .s 0 f8):=by
 refine uQ (k:=1) B.d_law_wound hI () rfl λ_ e A c s H hid a E d=>?_
 exact(ai (gg 1 hI.nd (GS (DP.ef aq) (jy 0 (eC B) (d.mono ()) (DA.gf (ag aq ak)))))
  (ai (gg 2 hI.nd (jy 0 (eC B) (d.mono ()) (DA.gf (ag aq ak))))
  (ai (Aa 3 (N':=B3) rfl hI.nd (bu (SE rfl)) (DIp.b (bv B.b_range (ag aq ak))) (λ_ _ _ _=>(aw 4 Oe)) (λ_ _ _ _=>bQ) (λ_ _ _ _=>(cj (bO (ae 4) (ae 2)) aq)))
  (am (aQ (cf (ag (cb cE iL B.b_tuple (aI (ae 3) aX) (hv:=by kernel_rfl)) (ag (cb cE iL B.b_tuple (aI (eJ (N':=E1) rfl (bu (SE rfl)) (DIp.b (cY (ae 3))) (λ_ _ _ _=>(aw 4 OR)) (λ_ _ _ _=>bQ) (λ_ _ _ _=>(cj (bO (ae 4) (ae 1)) aq))) aX) (hv:=by kernel_rfl)) ak))))))))
theorem gn:bg ["_law_n","_law_found","_law_bar","_law_longer","_law_begun"] ["_law_n"] (av rM):=by refine⟨rfl,rfl,rfl,?_,rfl,?_,?_⟩<;>decide+kernel
def rj(m:List D->Option D):Prop:=Qd 1 "_law_all" ["_law_n"] λK=>(spP K .s 1 m)
def n7: {t:FS // rj (bL .s 5 t)}:=⟨_,λB=>by exact aL (k:=0) B.d_law_all gn () rfl λ_ c A a s H hid E d=>(QSs.to (lB (Kc 1 gn.nd (Nn (Iy (MK HW) HW uT)))
 (lB (QS.of (cv Ti rfl (DIp.e (bv B.b_range (ag (ae 0) ak))) (aw 2 gn.nd) (ai (cX 3 gn.nd (df ak))
 (ai (cv Ti rfl (DIp.e (cY (ae 1))) (aw 4 gn.nd) (am (eL (JW 3 (eJ (N':=zW) rfl (bu (SE rfl)) (DIp.b (bv B.b_range (ag (ae 0) ak))) (λ_ _ _ _=>(aw 5 P9)) (λ_ _ _ _=>(kO (bD (rV d.units) (xT S1) (ae 5) (ae 4) (by with_unfolding_all rfl)))) (λ_ _ _ _=>(Cc (ae 4) (cf (ag (ae 5) ak)))))))))
 (am (F6 3 (aK 1 gn.nd (ae 3))))))))
 (AT (QS.of (aQ (ae 1)))))))⟩
def mL:FS:=n7.1
def rO:List D->Option D:=bL .s 5 mL
theorem C0:rj rO:=n7.2
theorem d0:bg ["_law_square_here","_law_left","_law_many","_law_column"] ["_law_square_here"] (av ki):=by refine⟨rfl,rfl,rfl,?_,rfl,?_,?_⟩<;>decide+kernel
def lD(m:List D->Option D):Prop:=Qd 1 "_law_rounds" ["_law_square_here"] λK=>(spP K .s 1 m)
def ju: {t:FS // lD (bL .s 4 t)}:=⟨_,λB=>by exact aL (k:=0) B.d_law_rounds d0 () rfl λ_ c A a s H hid E b=>(ai (cX 1 d0.nd (eN rfl B.b_list B.b_range (aR aG ck B.b_len (aI (aO aD aN (ae 0) aq (λ_ _=>rfl)) aX) (hv:=by kernel_rfl))))
 (ai (aK 2 d0.nd aq)
 (ai (gO 16 Ti (bD (j4 b.units) pN (cB 1) (df ak) (bm _)) (ai (aK 2 d0.nd (bO (ae 2) aq))
 (ai (aK 3 d0.nd (aO aD aN (cB 1) aq (λ_ _=>rfl)))
 (am (gO 16 Ti (bD (yQ b.units) (xT Pa) (ae 3) (cB 1) (by with_unfolding_all rfl)) (ai (eL (g6 1 C1 Dp PySem.F.slot_list_remove PySem.F.type_list_remove (DA.gf (ag (ae 3) ak))))
 (am (aK 3 d0.nd (mQ b.units (aO aD aN (ae 0) aq (λ_ _=>rfl)) (aO aD aN (aO aD aN (ae 0) aq (λ_ _=>rfl)) (ae 3) (λ_ _=>rfl)))))))))))
 (am (aQ (ae 2))))))⟩
def g7:FS:=ju.1
def ku:List D->Option D:=bL .s 4 g7
theorem uf:lD ku:=ju.2
theorem dd:bg ["_law_marks","_law_stand","_law_many","_law_n","_law_i","_law_j"] ["_law_marks","_law_stand"] (av ny):=by refine⟨rfl,rfl,rfl,?_,rfl,?_,?_⟩<;>decide+kernel
def m6(m:List D->Option D):Prop:=Qd 1 "_law_grade" ["_law_marks","_law_stand"] λK=>(spP K .s 2 m)
def li: {t:FS // m6 (bL .s 6 t)}:=⟨_,λB=>by exact aL (k:=0) B.d_law_grade dd () rfl λ_ b A a s H hid E c=>(ai (aK 2 dd.nd aq)
 (ai (aK 3 dd.nd (aR aG ck B.b_len (aI (ae 1) aX) (hv:=by kernel_rfl)))
 (ai (cv Ti rfl (DIp.e (bv B.b_range (ag (ae 3) ak))) (aw 4 dd.nd) (am (cv Ti rfl (DIp.e (bv B.b_range (ag (ae 3) ak))) (aw 5 dd.nd) (ai (aK 2 dd.nd (bO (ae 2) (cb jb u9 B.b_int (aI (mx (fK ii dP (ae 4) (ae 5) (bm _)) (l7 (fK ii dP (aO aD aN (ae 1) (ae 4) (λ_ _=>rfl)) (aO aD aN (ae 1) (ae 5) (λ_ _=>rfl)) (bm _)))) aX) (hv:=by kernel_rfl))))
 (ai (aK 2 dd.nd (bO (ae 2) (cb jb u9 B.b_int (aI (mx (fK ii dP (ae 4) (ae 5) (bm _)) (l7 (fK ii dP (aO aD aN (ae 0) (ae 4) (λ_ _=>rfl)) (aO aD aN (ae 0) (ae 5) (λ_ _=>rfl)) (bm _)))) aX) (hv:=by kernel_rfl))))
 (ai (aK 2 dd.nd (b7 (ae 2) (cb jb u9 B.b_int (aI (mx (fK Ln dP (ae 4) (ae 5) (bm _)) (l7 (fK Ln dP (aO aD aN (ae 1) (ae 4) (λ_ _=>rfl)) (aO aD aN (ae 0) (ae 5) (λ_ _=>rfl)) (bm _)))) aX) (hv:=by kernel_rfl))))
 (am (aK 2 dd.nd (b7 (ae 2) (cb jb u9 B.b_int (aI (mx (fK ii dP (ae 4) (ae 5) (bm _)) (l7 (fK ii dP (aO aD aN (ae 0) (ae 4) (λ_ _=>rfl)) (aO aD aN (ae 1) (ae 5) (λ_ _=>rfl)) (bm _)))) aX) (hv:=by kernel_rfl)))))))))))
 (am (aQ (ae 2))))))⟩
def iV:FS:=li.1
def dM:List D->Option D:=bL .s 6 iV
theorem nE:m6 dM:=li.2
theorem e7:bg ["_law_square_here","_law_stands","_law_less","_law_found","_law_stand","_law_one"] Fz (av nM):=by refine⟨rfl,rfl,rfl,?_,rfl,?_,?_⟩<;>decide+kernel
def mU(m:List D->Option D):Prop:=Qd 2 "_law_homes" Fz λK=>(spP K .n 2 m)
def km: {t:FS // mU (bL .n 6 t)}:=⟨_,λB=>by exact aL (k:=1) B.d_law_homes e7 () rfl λ_ c A a s H hid E b=>(ai (aK 2 e7.nd (b7 (aR aG ck B.b_len (aI (aO aD aN (ae 0) aq (λ_ _=>rfl)) aX) (hv:=by kernel_rfl)) (a9 (uf B) (b.mono ()) (ag (ae 0) ak))))
 (ai (cX 3 e7.nd (df ak))
 (ai (cv Ti rfl (DIp.e (cY (ae 1))) (aw 4 e7.nd) (ai (aK 5 e7.nd (a9 (nE B) (b.mono ()) (ag (aO aD aN (ae 0) aq (λ_ _=>rfl)) (ag (ae 4) ak))))
 (am (eL (g6 3 gP dL UH UI (DA.gf (ag (cf (ag (ae 5) (ag (b7 (b7 (ae 5) (a9 (nE B) (b.mono ()) (ag (aO aD aN (ae 0) aq (λ_ _=>rfl)) (ag (ae 4) ak)))) (ae 2)) ak))) ak uT)))))))
 (am (lK 3)))))⟩
def iC:FS:=km.1
def gj:List D->Option D:=bL .n 6 iC
theorem wM:mU gj:=km.2
theorem hB:bg ["_law_square_here","_law_stand","_law_a","_law_b","_law_n","_law_high","_law_k","_law_column"] zS (av qx):=by refine⟨rfl,rfl,rfl,?_,rfl,?_,?_⟩<;>decide+kernel
def qD(m:List D->Option D):Prop:=Qd 1 "_law_free" zS λK=>(spP K .s 4 m)
def qs: {t:FS // qD (bL .s 8 t)}:=⟨_,λB=>by exact aL (k:=0) B.d_law_free hB () rfl λ_ b A a s H hid E c=>(ai (aK 4 hB.nd (aR aG ck B.b_len (aI (ae 1) aX) (hv:=by kernel_rfl)))
 (ai (aK 5 hB.nd (cj (b7 (aO aD aN (ae 1) (ae 3) (λ_ _=>rfl)) (aO aD aN (ae 1) (ae 2) (λ_ _=>rfl))) (ae 4)))
 (ai (cv Ti rfl (DIp.e (bv B.b_range (ag (cj (b7 (ae 3) (ae 2)) (ae 4)) ak))) (aw 6 hB.nd) (ai (aK 7 hB.nd (cj (bO (ae 2) (ae 6)) (ae 4)))
 (ai (eW (DW.dt (mw (bD AV dP (ae 6) aq (bm _)) (i0 (bD ii dP (cj (b7 (aO aD aN (ae 1) (ae 7) (λ_ _=>rfl)) (aO aD aN (ae 1) (ae 2) (λ_ _=>rfl))) (ae 4)) (ae 5) (bm _))))) (am (aQ sx)) cI)
 (am (eW (DW.dt (Ao (bD ii dP (cj (b7 (aO aD aN (aO aD aN (ae 0) aq (λ_ _=>rfl)) (ae 7) (λ_ _=>rfl)) (aO aD aN (ae 1) (ae 2) (λ_ _=>rfl))) (ae 4)) (ae 5) (bm _)) (yg (bD ii dP (cj (b7 (aO aD aN (aO aD aN (ae 0) aq (λ_ _=>rfl)) (ae 7) (λ_ _=>rfl)) (aO aD aN (ae 1) (ae 2) (λ_ _=>rfl))) (ae 4)) (ae 5) (bm _))))) (am (aQ sx)) cI)))))
 (am (aQ sx)))))⟩
def yu:FS:=qs.1
def jK:List D->Option D:=bL .s 8 yu
theorem zj:qD jK:=qs.2
theorem ea:bg ["_law_square_here","_law_stand","_law_places","_law_number","_law_a","_law_b","_law_heights"] A0 (av k7):=by refine⟨rfl,rfl,rfl,?_,rfl,?_,?_⟩<;>decide+kernel
def kH(m:List D->Option D):Prop:=Qd 2 "_law_border" A0 λK=>(spP K .s 3 m)
def j2: {t:FS // kH (bL .s 7 t)}:=⟨_,λB=>by exact aL (k:=1) B.d_law_border ea () rfl λ_ c A a s H hid E b=>(ai (aK 3 ea.nd aq)
 (ai (cv Ti rfl (DIp.e (bv B.b_range (ag (aR aG ck B.b_len (aI (ae 1) aX) (hv:=by kernel_rfl)) ak))) (aw 4 ea.nd) (am (cv Ti rfl (DIp.e (bv B.b_range (ag (aR aG ck B.b_len (aI (ae 1) aX) (hv:=by kernel_rfl)) ak))) (aw 5 ea.nd) (am (eW (DW.dt (mw (bD (j4 b.units) pN (ae 4) (ae 5) (bm _)) (i0 (j6 (a9 (zj B) (b.mono ()) (ag (ae 0) (ag (ae 1) (ag (ae 4) (ag (ae 5) ak))))))))) (ai (cX 6 ea.nd (cb lR Br B.b_list (aI (ae 1) aX) (hv:=by kernel_rfl)))
 (ai (lY (DP.ef (cf (ag (aO aD aN (ae 1) (ae 5) (λ_ _=>rfl)) (ag (aO aD aN (ae 1) (ae 4) (λ_ _=>rfl)) ak)))) (tS (n:=2) rfl (gI (fm 6 (ae 4)) (gI (fm 6 (ae 5)) uE))))
 (am (aK 3 ea.nd (EU (ae 3) (L4 aq (uI (dJ b) (ae 2) (Gp (cB 6) B.b_tuple) (λ_ _=>rfl)))))))) cI)))))
 (am (aQ (ae 3)))))⟩
def g8:FS:=j2.1
def dY:List D->Option D:=bL .s 7 g8
theorem vP:kH dY:=j2.2
theorem i4:bg ["_law_numbers","_law_leads","_law_number"] ["_law_numbers"] (av qf):=by refine⟨rfl,rfl,rfl,?_,rfl,?_,?_⟩<;>decide+kernel
def qb(m:List D->Option D):Prop:=Qd 1 "_law_rank" ["_law_numbers"] λK=>(spP K .s 1 m)
def md: {t:FS // qb (bL .s 3 t)}:=⟨_,λB=>by exact aL (k:=0) B.d_law_rank i4 () rfl λ_ c A a s H hid E b=>(ai (Ir 1 i4.nd)
 (ai (cv Ti rfl (DIp.e (cY (ae 0))) (aw 2 i4.nd) (ai (gO 130 Ti (DW.dt (mw (bD AV dP (ae 2) aq (bm _)) (i0 (Is 1 (dJ b) (b7 (uL (ae 2)) aq))))) (am (aK 2 i4.nd (EU (ae 2) (M3 1 (dJ b) (b7 (uL (ae 2)) aq) (λ_ _=>rfl))))))
 (am (eW (bD AV dP (ae 2) aq (bm _)) (am (KW 1 (dJ b) (b7 (uL (ae 2)) aq) (ae 2))) cI))))
 (am (aQ (KL 1 B.b_len)))))⟩
def jQ:FS:=md.1
def dD:List D->Option D:=bL .s 3 jQ
theorem pV:qb dD:=md.2
theorem c7:bg ["_law_square_here","_law_stands","_law_places","_law_place","_law_stand","_law_homes_here","_law_home","_law_due_here","_law_one","_law_other","_law_many"] ["_law_square_here"] (av sN):=by refine⟨rfl,rfl,rfl,?_,rfl,?_,?_⟩<;>decide+kernel
def sW(m:List D->Option D):Prop:=Qd 3 "_law_due" ["_law_square_here"] λK=>(spP K .n 1 m)
def nj: {t:FS // sW (bL .n 11 t)}:=⟨_,λB=>by exact aL (k:=2) B.d_law_due c7 () rfl λ_ c A b s H hid E a=>(ai (aK 1 c7.nd (a9 (C0 B) (a.mono ()) (ag (aR aG ck B.b_len (aI (aO aD aN (ae 0) aq (λ_ _=>rfl)) aX) (hv:=by kernel_rfl)) ak)))
 (ai (iJ 2 c7.nd)
 (ai (cv Ti rfl (DIp.e (CB (ae 1) B.b_enumerate)) (cH (n:=2) rfl (aM (aw 3 c7.nd) (aM (aw 4 c7.nd) cK))) (am (lE 2 (dJ a) (jF (ae 4)) (ae 3))))
 (ai (iJ 5 c7.nd)
 (ai (KZ 5 (x8 2 (cv Ti rfl (DIp.e (J3 (ae 1) (DP.toS (a9 (wM B) (a.mono ()) (ag (ae 0) (ag (ae 1) ak)))) B.b_zip)) (cH (n:=2) rfl (aM (aw 4 c7.nd) (aM (aw 6 c7.nd) cK))) (am (IU 5 (dJ a) UH UI (jF (ae 6)) (a9 (vP B) (a.mono ()) (ag (ae 0) (ag (ae 4) (ag (ae 2) ak)))) ⟨rfl,rfl,rfl,rfl⟩)))))
 (ai (cX 7 c7.nd (df ak))
 (ai (MQ 5 (cv Ti rfl (DIp.e (cY (DP.toS (IX rfl B.b_sorted (ae 5))))) (cH (n:=2) rfl (aM (aw 8 c7.nd) (aM (aw 9 c7.nd) cK))) (ai (aK 10 c7.nd (b7 (aR aG ck B.b_len (aI (uI (dJ a) (ae 5) (zc (ag (ae 8) (ag (ae 9) ak))) (λ_ _=>rfl)) aX) (hv:=by kernel_rfl)) (a9 (pV B) (a.mono ()) (ag (uI (dJ a) (ae 5) (zc (ag (ae 8) (ag (ae 9) ak))) (λ_ _=>rfl)) ak))))
 (ai (aK 10 c7.nd (b7 (ae 10) (a9 (pV B) (a.mono ()) (ag (FX (dJ a) (ae 5) (zc (ag (bO (ae 8) aq) (ag (ae 9) ak))) (DP.toS (df ak)) ⟨rfl,rfl,rfl,rfl⟩) ak))))
 (am (eW (bD AV dP (ae 10) aq (bm _)) (am (eL (g6 7 gP dL UH UI (DA.gf (ag (cf (ag (ae 8) (ag (ae 9) (ag (ae 10) ak)))) ak uT))))) cI))))))
 (am (lK 7)))))))))⟩
def l9:FS:=nj.1
def gC:List D->Option D:=bL .n 11 l9
theorem Cf:sW gC:=nj.2
theorem nV:bg ["_law_thing"] ["_law_thing"] (av iq):=by refine⟨rfl,rfl,rfl,?_,rfl,?_,?_⟩<;>decide+kernel
def iD(m:List D->Option D):Prop:=Qd 1 "_law_is_three" ["_law_thing"] λK=>(spP K .s 1 m)
def kv: {t:FS // iD (bL .s 1 t)}:=⟨_,λB=>by exact aL (k:=0) B.d_law_is_three nV () rfl λ_ c A a s H hid E d=>(ai (eW (DW.dt (Ao (ym (j6 (vO "tuple" GO (ae 0) B.b_isinstance B.b_tuple))) (yg (bD (j4 d.units) pN (aR aG ck B.b_len (aI (ae 0) aX) (hv:=by kernel_rfl)) aq (bm _))))) (am (aQ sx)) cI)
 (am (aQ (aR (wg rfl) Fy B.b_all (aI (eJ (N':=["_law_thing","_law_number"]) rfl (bu (SE rfl)) (DIp.b (cY (ae 0))) (λ_ _ _ _=>(aw 1 PM)) (λ_ _ _ _=>bQ) (λ_ _ _ _=>(mx (vO "int" Nl (ae 1) B.b_isinstance B.b_int) (l7 (yy (vO "bool" Jr (ae 1) B.b_isinstance B.b_bool)))))) aX) (hv:=by kernel_rfl)))))⟩
def qu:FS:=kv.1
def cP:List D->Option D:=bL .s 1 qu
theorem oP:iD cP:=kv.2
theorem mv:bg ["_law_script","_law_bag_here","_law_kind","_law_square_here","_law_due_here","_law_found"] ["_law_script"] (av ka):=by refine⟨rfl,rfl,rfl,?_,rfl,?_,?_⟩<;>decide+kernel
def Ew:FS:=
 aF (dh 1 (au (nF 2 mI) (af (ah 0) (af (aH (.int 0)) (aj)))))
 (aF (fM 2 (aV 1 1 b8 (c8 (af (aH (.int 8)) (aj)))))
 (aF (fM 3 (aV 1 1 gV (c8 (af (ar bt (cD (af (aH (.int 2)) (af (aH (.int 3)) (af (aH (.int 3)) (af (aH (.int 4)) (af (aH (.int 4)) (af (aH (.int 4)) (af (aH (.int 5)) (af (aH (.int 5)) (aj)))))))))) (ah 2)) (aj)))))
 (aF (gm (bJ (ar vL (ah 2) (aH (.int 7)))) (fM 3 (aV 1 0 f8 (c8 (aj)))) (el))
 (aF (br 4 (au (nF 1 gC) (af (ah 3) (aj))))
 (aF (dh 5 (au (nF 1 gX) (af (ah 3) (aj))))
 (aF (gm (xQ (lI (ir (E5 "list" (cR 5)))) (xQ (lI (ir (au yV (af (bT 1 (gu (cR 5)) (gN 6) (fG) (au (nF 1 cP) (af (ah 6) (aj)))) (aj))))) (bJ (ar uD (cR 5) (ah 4))))) (bX (aH (.bl Pa))) (el))
 (aF (cz (aV 5 0 M4 (c8 aj)))
 (bX (ar vL (au (nF 1 gX) (af (ah 3) (aj))) (ah 4))))))))))
def LP:List D->Option D:=bL .s 6 Ew
theorem NG(B:Bt K mg)(F:Fun K "law" "law" ka f fd):j3 P w K mg base vV 10 f fd ["_law_script"] (spP K .s 1 LP):=by
 refine B9 (k:=9) F mv () λc A b s H hid E a=>?_
 exact(ai (cX 1 mv.nd (a9 (DR B) (a.mono ()) (ag (ae 0) (ag aq ak))))
  (ai (gg 2 mv.nd (jy 1 (eC B) (a.mono ()) (DA.gf (ag aq ak))))
  (ai (gg 3 mv.nd (jy 1 (vk B) (a.mono ()) (DA.gf (ag (aO aD aN (df (ag aq (ag aq (ag aq (ag aq (ag aq (ag aq (ag aq (ag aq ak))))))))) (ae 2) (λ_ _=>rfl)) ak))))
  (ai (eW (bD (mG a.units) sF (ae 2) aq (bm _)) (am (gg 3 mv.nd (jy 1 (xA B) (a.mono ()) (DA.gf ak)))) cI)
  (ai (aK 4 mv.nd (DP.toS (a9 (Cf B) (a.mono ()) (ag (ae 3) ak))))
  (ai (cX 5 mv.nd (a9 (Ak B) (a.mono ()) (ag (ae 3) ak)))
  (ai (eW (DW.dt (Ao (ym (j6 (vO "list" KY (cB 5) B.b_isinstance B.b_list))) (Ao (ym (j6 (aR (wg rfl) Fy B.b_all (aI (eJ (N':=zk) rfl (bu (SE rfl)) (xu (cB 5)) (λ_ _ _ _=>(aw 6 PB)) (λ_ _ _ _=>bQ) (λ_ _ _ _=>(a9 (oP B) (a.mono ()) (ag (ae 6) ak)))) aX) (hv:=by kernel_rfl)))) (yg (bD (j4 a.units) pN (cB 5) (ae 4) (bm _)))))) (am (aQ sx)) cI)
  (ai (eL (GT 5 G5 Ed PySem.F.slot_list_clear PySem.F.type_list_clear))
  (am (aQ (fK (mG a.units) sF (a9 (Ak B) (a.mono ()) (ag (ae 3) ak)) (ae 4) (bm _))))))))))))
end
def ls:List Nat->(Nat->Int)->Int
 | [],_=>0
 |x::l,f=>f x+ls l f
theorem fw(x:Nat)(l:List Nat)(f:Nat->Int):ls (x::l) f=f x+ls l f:=rfl
theorem bP {f g:Nat->Int}: ∀ {l:List Nat},(∀x∈l,f x=g x)->ls l f=ls l g
 | [],_=>rfl
 |x::l,h=>by unfold ls;rw[h x (SM ..),bP λy a=>h y (SI _ a)]
theorem fF(f g:Nat->Int): ∀l,ls l (λx=>f x+g x)=ls l f+ls l g
 | []=>rfl
 |x::l=>by simp only[fw];rw[fF f g l];lia
theorem c9(f g:Nat->Int): ∀l,ls l (λx=>f x-g x)=ls l f-ls l g
 | []=>rfl
 |x::l=>by simp only[fw];rw[c9 f g l];grind
theorem l6(k:Int)(f:Nat->Int): ∀l,ls l (λx=>k*f x)=k*ls l f
 | []=>by simp[ls]
 |x::l=>by simp only[fw];simp[l6,Int.mul_add]
theorem gB(k:Int): ∀l,ls l (λ_=>k)=l.length*k
 | []=>by simp[ls]
 |x::l=>by simp only[fw];rw[gB k l,SX,Int.natCast_succ,Int.add_mul];grind
theorem yA(g:Nat->Nat)(f:Nat->Int): ∀l,ls (l.map g) f=ls l (λx=>f (g x))
 | []=>rfl
 |x::l=>by simp[ls,yA]
theorem Bw{l m:List Nat}(h:l.Perm m):ls l f=ls m f:=by
 induction h with
 |nil=>rfl
 |cons x _ c=>unfold ls;rw[c]
 |swap x y l=>show f y+(f x+ls l f)=f x+(f y+ls l f);grind
 |trans _ _ b a=>rw[b,a]
def bi(b:Bool):Int:=if b then 1 else 0
theorem mo(p:Nat->Bool)(f:Nat->Int): ∀l,ls (l.filter p) f=ls l (λx=>bi (p x)*f x)
 | []=>rfl
 |x::l=>by
  have:=mo p f l;grind[fw,bi]
theorem og {f:Nat->Int}(h: ∀x∈l,f x=0):ls l f=0:=by
 rw[bP (g:=λ_=>0) h,gB];rfl
theorem uM {l:List Nat}(b:l.Nodup){a:Nat}(k:Int)(h:a∈l):ls l (λx=>if x=a then k else 0)=k:=by
 induction l with
 |nil=>nofun
 |cons x l c=>
  simp only[fw];rw[T5] at b
  by_cases e:x=a
  ·subst e;rw[if_pos rfl,og (f:=λy=>if y=x then k else 0) λy d=>if_neg λe:y=x=>b.1 (e▸d)];simp
  ·rw[if_neg e,c b.2 ((S6.mp h).resolve_left (To e))];simp
theorem Mc(k:a<n)(d:b<n)(l:a≠b){f g:Nat->Int}(h: ∀i,i<n->i≠a->i≠b->f i=g i):ls (Su n) f-ls (Su n) g=(f a-g a)+(f b-g b):=by
 rw[<-c9];rw[bP (g:=λx=>(if x=a then f a-g a else 0)+(if x=b then f b-g b else 0)),fF,uM Uo _ (SV.mpr k),uM Uo _ (SV.mpr d)];intro x c;rw[SV] at c
 by_cases e:x=a
 ·subst e;grind
 ·by_cases j:x=b
  ·subst j;nofun
  ·nofun
theorem Fv{o:List Nat}(a:o.length=n)(f:Nat->Int):ls (Su n) (λc=>f (o.getD c 0))=ls o f:=by
 rw[<-yA (λc=>o.getD c 0)];congr 1;apply U8
 ·nofun
 nofun
theorem Ex{o:List Nat}(O:Ord n o)(f:Nat->Int):ls (Su n) (λc=>f (o.getD c 0))=ls (Su n) f:=by
 rw[Fv O.len];exact Bw O.perm
theorem t8(c:s<n)(b:e<n)(a:x<n):bi (dC n s e x)=bi (Oo (s<=x)) -bi (Oo (e<=x))+bi (Oo (e<s)):=by
 have h:0<n:=by lia
 have m: ∀y:Nat,y<n->((y:Int) -s) % (n:Int)=if s<=y then((y:Int) -s) else((y:Int) -s+n):=λy d=>by
  split
  ·exact VO (by nofun) (by omega)
  ·rw[<-jaE];exact VO (by omega) ⋯
 unfold dC;rw[m x a,m e b];unfold bi;lia
theorem Kf(h:0<n)(d:a<n)(b:Nat)(f:Nat->Int):ls (fV n a b) f=ls (Su n) (λc=>bi (dC n a b c)*f c):=by
 rw[Bw (pP h d b)];simp[sA,mo]
theorem uS(h:0<n)(d:a<n)(b:Nat):ls (Su n) (λc=>bi (dC n a b c))=((b:Int) -a) % n:=by
 have:=Kf h d b (λ_=>1);rw[gB] at this;simp only[Int.mul_one] at this;rw[<-this];unfold fV;rw[SO,UB];exact(Jq _ h).2
theorem fj {o:List Nat}(d:a<o.length)(c:b<o.length)(i:Nat):(bN o a b).getD i 0=if i=b then o.getD a 0 else if i=a then o.getD b 0 else o.getD i 0:=by
 grind[bN]
theorem vK {o:List Nat}(e:o.length=n)(d:a<n)(c:b<n)(k:a≠b)(g:Nat->Nat->Int):
 ls (Su n) (λi=>g i (o.getD i 0)) -ls (Su n) (λi=>g i ((bN o a b).getD i 0))=g a (o.getD a 0)+g b (o.getD b 0) -g a (o.getD b 0) -g b (o.getD a 0):=by
 rw[Mc d c k (f:=λi=>g i (o.getD i 0)) (g:=λi=>g i ((bN o a b).getD i 0)) λi _ j h=>by rw[fj (e▸d) (e▸c),if_neg h,if_neg j]];grind[fj]
theorem oK(x y:Bool):bi (x&&y)=bi x*bi y:=by cases x<;>cases y<;>rfl
theorem Fs(a b:Nat):bi (Oo (a<b))=1-bi (Oo (b<=a)):=by
 grind[bi]
def Ih(n:Nat)(r o:List Nat):Int:=ls (Su n) λi=>ls (Su n) λc=>bi (Oo (i<=c)&&Oo (o.getD i 0<=r.getD c 0))
def Id(n:Nat)(r o:List Nat):Int:=ls (Su n) λc=>ls (Su n) λi=>bi (Oo (c<i)&&Oo (r.getD c 0<o.getD i 0))
def lM(n:Nat)(o:List Nat):Int:=ls (Su n) λi=>ls (Su n) λj=>bi (Oo (i<j)&&Oo (o.getD i 0<o.getD j 0))
def qi(n:Nat)(r o:List Nat)(a b:Nat):Int:=ls (Su n) λc=>bi (dC n a b c)*bi (dC n (o.getD a 0) (o.getD b 0) (r.getD c 0))
def Bk(n:Nat)(o:List Nat)(a b:Nat):Int:=ls (Su n) λc=>bi (dC n a b c)*bi (Oo (c≠a)&&dC n (o.getD a 0) (o.getD b 0) (o.getD c 0))
def Dt(n:Nat)(o:List Nat)(a b:Nat):Int:=bi (Oo (o.getD b 0<o.getD a 0))*(((b:Int) -a) % n)+bi (Oo (b<a))*(((o.getD b 0:Int) -o.getD a 0) % n) -n*(bi (Oo (b<a))*bi (Oo (o.getD b 0<o.getD a 0)))
section
variable {n a b:Nat}{r o:List Nat}(O:Ord n o)(R:Ord n r)(ha:a<n)(hb:b<n)(ne:a≠b)
include O R ha hb ne
theorem wJ:ls (Su n) (λc=>(bi (Oo (a<=c)) -bi (Oo (b<=c)))*(bi (Oo (o.getD a 0<=r.getD c 0)) -bi (Oo (o.getD b 0<=r.getD c 0))))=qi n r o a b-Dt n o a b:=by
 have h:0<n:=by lia
 rw[bP (g:=λc=>((bi (dC n a b c)*bi (dC n (o.getD a 0) (o.getD b 0) (r.getD c 0)) -bi (Oo (o.getD b 0<o.getD a 0))*bi (dC n a b c)) -bi (Oo (b<a))*bi (dC n (o.getD a 0) (o.getD b 0) (r.getD c 0)))+bi (Oo (b<a))*bi (Oo (o.getD b 0<o.getD a 0)))]
 ·rw[fF,c9,c9,l6,l6,uS h ha,Ex R (λv=>bi (dC n (o.getD a 0) (o.getD b 0) v)),uS h (O.get ha),gB,UB];grind[qi,Dt]
 ·intro c d;rw[SV] at d;rw[t8 ha hb d,t8 (O.get ha) (O.get hb) (R.get d)];grind
theorem MA:Ih n r o-Ih n r (bN o a b)=qi n r o a b-Dt n o a b:=by
 unfold Ih;rw[vK O.len ha hb ne (λi u=>ls (Su n) λc=>bi (Oo (i<=c)&&Oo (u<=r.getD c 0)))];rw[<-wJ O R ha hb ne,<-fF,<-c9,<-c9];grind[oK]
theorem NI:Id n r o-Id n r (bN o a b)=qi n r o a b-Dt n o a b:=by
 unfold Id;rw[<-wJ O R ha hb ne,<-c9];refine bP λc _=>?_
 rw[vK O.len ha hb ne (λi u=>bi (Oo (c<i)&&Oo (r.getD c 0<u)))];grind[oK,Fs]
end
theorem cr {x y:Nat}(h:x≠y):bi (Oo (y<x))=1-bi (Oo (x<y))/\bi (Oo (x<=y))=bi (Oo (x<y)):=by
 rcases jfq x y with q|q
 ·rw[v3 q,v7 (Nat.lt_asymm q),v3 (Va q)];exact⟨rfl,rfl⟩
 ·have w:=jaF q h.symm;rw[v7 (We.mpr q),v3 w,v7 (Nat.not_le.mpr w)];exact⟨rfl,rfl⟩
theorem eO(x:Nat):bi (Oo (x<x))=0/\bi (Oo (x<=x))=1:=by
 rw[v7 (TH x),v3 (SB x)];exact⟨rfl,rfl⟩
theorem PD(X Y:Int):(0- (1-X))*(0-Y)+(0-X)*(Y-0)=2*((1- (1-X)+(1-X))*(0*(1-Y+Y))) -2*Y*(1- (1-X)+(1-X)) -2*(1-X)*(1-Y+Y)+2*((1-X)*Y)+(Y+2*(1-X)+0):=by grind
theorem Pq(X Y:Int):(X-0)*(Y-0)+(1-X-0)*(0-Y)=2*((X-1+(1-X))*(1*(Y-1+(1-Y)))) -2*(1-Y)*(X-1+(1-X)) -2*(1-X)*(Y-1+(1-Y))+2*((1-X)*(1-Y))+(0+(1-2*(1-X) - (1-Y))):=by grind
theorem Ot(p q u v w t:Int):(p-q)*(u-v)+(1-p- (1-q))*(1-u- (1-v))=2*((p-q+w)*(1*(u-v+t))) -2*t*(p-q+w) -2*w*(u-v+t)+2*(w*t)+(0+0):=by grind
section
variable {n a b:Nat}{o:List Nat}(O:Ord n o)(ha:a<n)(hb:b<n)(ne:a≠b)
include O ha hb ne
theorem Mx:lM n o-lM n (bN o a b)=1+2*Bk n o a b-2*Dt n o a b:=by
 have h:0<n:=by lia
 have l:lM n o- (ls (Su n) λi=>ls (Su n) λj=>bi (Oo (i<j)&&Oo ((bN o a b).getD i 0<o.getD j 0)))=ls (Su n) λj=>(bi (Oo (a<j)) -bi (Oo (b<j)))*(bi (Oo (o.getD a 0<o.getD j 0)) -bi (Oo (o.getD b 0<o.getD j 0))):=by
  unfold lM;rw[vK O.len ha hb ne (λi u=>ls (Su n) λj=>bi (Oo (i<j)&&Oo (u<o.getD j 0))),<-fF,<-c9,<-c9];grind[oK]
 have m:(ls (Su n) λi=>ls (Su n) λj=>bi (Oo (i<j)&&Oo ((bN o a b).getD i 0<o.getD j 0))) -lM n (bN o a b)=ls (Su n) λi=>(bi (Oo (i<a)) -bi (Oo (i<b)))*(bi (Oo ((bN o a b).getD i 0<o.getD a 0)) -bi (Oo ((bN o a b).getD i 0<o.getD b 0))):=by
  unfold lM;rw[<-c9];refine bP λi _=>?_
  rw[vK O.len ha hb ne (λj u=>bi (Oo (i<j)&&Oo ((bN o a b).getD i 0<u)))];grind[oK]
 have k:lM n o-lM n (bN o a b)=ls (Su n) λj=>(((2*(bi (dC n a b j)*bi (Oo (j≠a)&&dC n (o.getD a 0) (o.getD b 0) (o.getD j 0))) -2*bi (Oo (o.getD b 0<o.getD a 0))*bi (dC n a b j)) -2*bi (Oo (b<a))*bi (dC n (o.getD a 0) (o.getD b 0) (o.getD j 0)))+2*(bi (Oo (b<a))*bi (Oo (o.getD b 0<o.getD a 0))))+((if j=a then bi (Oo (o.getD b 0<o.getD a 0))+2*bi (Oo (b<a)) else 0)+(if j=b then 1-2*bi (Oo (b<a)) -bi (Oo (o.getD b 0<o.getD a 0)) else 0)):=by
  rw[show lM n o-lM n (bN o a b)=_+_ from(by lia:_=(ls (Su n) λj=>(bi (Oo (a<j)) -bi (Oo (b<j)))*(bi (Oo (o.getD a 0<o.getD j 0)) -bi (Oo (o.getD b 0<o.getD j 0))))+ls (Su n) λi=>(bi (Oo (i<a)) -bi (Oo (i<b)))*(bi (Oo ((bN o a b).getD i 0<o.getD a 0)) -bi (Oo ((bN o a b).getD i 0<o.getD b 0)))),<-fF];refine bP λj f=>?_
  rw[SV] at f;rw[t8 ha hb f,oK,t8 (O.get ha) (O.get hb) (O.get f),fj (O.len▸ha) (O.len▸hb)];have c:o.getD a 0≠o.getD b 0:=λe=>ne (O.inj ha hb e)
  by_cases e:j=a
  ·subst e;rw[if_neg ne,if_pos rfl,if_pos rfl,if_neg ne,(eO j).1,(eO j).2,(eO (o.getD j 0)).1,(eO (o.getD b 0)).1,(cr ne.symm).2,(cr ne).1,v7 (λq=>q rfl: ¬j≠j),show bi Pa=0 from rfl,(eO (o.getD j 0)).2,(cr c.symm).2];exact PD _ _
  ·by_cases d:j=b
   ·subst d;rw[if_pos rfl,if_neg e,if_pos rfl,(eO j).1,(eO j).2,(eO (o.getD j 0)).1,(eO (o.getD j 0)).2,(eO (o.getD a 0)).1,(cr ne).1,(cr ne).2,(cr c).1,(cr c).2,v3 e,show bi S1=1 from rfl];exact Pq _ _
   ·rw[if_neg d,if_neg e,if_neg e,if_neg d];have g:o.getD j 0≠o.getD a 0:=λx=>e (O.inj f ha x)
    have ob:o.getD j 0≠o.getD b 0:=λx=>d (O.inj f hb x)
    rw[(cr (To e)).1,(cr (To d)).1,(cr (To e)).2,(cr (To d)).2,(cr g.symm).1,(cr ob.symm).1,(cr g.symm).2,(cr ob.symm).2,v3 e,show bi S1=1 from rfl];exact Ot _ _ _ _ _ _
 rw[k];rw[fF,fF,fF,c9,c9,l6,l6,l6,uM Uo _ (SV.mpr ha),uM Uo _ (SV.mpr hb),uS h ha,Ex O (λv=>bi (dC n (o.getD a 0) (o.getD b 0) v)),uS h (O.get ha),gB,UB];grind[Bk,Dt]
end
theorem Fn {xs ys:List Nat}(a:xs.length=ys.length)(h: ∀i,i<xs.length->xs.getD i 0=ys.getD i 0):xs=ys:=by
 grind[U8]
theorem ES{r x o:List Nat}(O:Ord n o)(R:Ord n r)(X:Ord n x)(g:a<n)(k:b<n)(l:a≠b):bH r x o a b=S1↔(∀c,c<n->dC n a b c=S1->c≠a-> ¬dC n (o.getD a 0) (o.getD b 0) (o.getD c 0)=S1)/\(∀c,c<n->dC n a b c=S1-> ¬dC n (o.getD a 0) (o.getD b 0) (r.getD c 0)=S1)/\(∀c,c<n->dC n a b c=S1-> ¬dC n (o.getD a 0) (o.getD b 0) (x.getD c 0)=S1):=by
 unfold bH;rw[TR,pd O g k l];refine and_congr ⟨λh c d i f j=>h c d ⟨i,f,j,λe=>f (O.inj d g e)⟩,λh c d ⟨i,f,j,_⟩=>h c d i f j⟩ ?_
 unfold j7;rw[O.len,Ut,Xk];simp only[ng,X2,vu,not_or,not_and];constructor
 ·intro h;exact⟨λc d i j=>(h c ⟨d,i⟩).1 (R.get d) j,λc d i j=>(h c ⟨d,i⟩).2 (X.get d) j⟩
 nofun
def sp(n:Nat)(P:Nat->Nat->Bool):List (Nat×Nat):=(Su n).flatMap λa=>((Su n).filter λb=>decide (a≠b)&&P a b).map λb=>(a,b)
theorem hH{p:Nat×Nat}:p∈sp n P↔p.1<n/\p.2<n/\p.1≠p.2/\P p.1 p.2=true:=by
 grind[sp]
theorem Pl(n:Nat)(P:Nat->Nat->Bool):(sp n P).Pairwise λp q=>p.1<q.1\/(p.1=q.1/\p.2<q.2):=by
 refine Xt.mpr ⟨λa _=>Ug.mpr ((Uk.filter _).imp λh=>.inr ⟨rfl,h⟩),Uk.imp λh x b y c=>.inl ?_⟩;obtain⟨_,_,rfl⟩:=SY.mp b;obtain⟨_,_,rfl⟩:=SY.mp c;exact h
theorem BO(n:Nat)(P:Nat->Nat->Bool):(sp n P).Nodup:=(Pl n P).imp λh e=>by lia
theorem LL {α β:Type}{l:List α}{f:α->List β}(h:l.Nodup)(b: ∀p,(f p).Nodup):(l.flatMap λp=>(f p).map λq=>(p,q)).Nodup:=by
 refine Xt.mpr ⟨λp _=>Ug.mpr ((b p).imp λh e=>h (congrArg (·.2) e)),h.imp λh x a y c e=>?_⟩;obtain⟨_,_,rfl⟩:=SY.mp a;obtain⟨_,_,rfl⟩:=SY.mp c;exact h (congrArg (·.1) e)
theorem MI(n:Nat)(P:Nat->Nat->Bool):(sp n P).length<=n*n:=by
 have c: ∀(l:List Nat) (f:Nat->List (Nat×Nat)),(∀a,(f a).length<=n)->(l.flatMap f).length<=l.length*n:=by
  intro l f e
  induction l with
  |nil=>simp
  |cons a l d=>rw[T7,S5,SX,Z4,Z5];grind
 have:=c (Su n) (λa=>((Su n).filter λb=>decide (a≠b)&&P a b).map λb=>(a,b)) λa=>by grind
 rwa [UB] at this
theorem Jh{o:List Nat}(b:o.length=n)(P:Nat->Nat->Bool):F0 P o=(sp n P).map λp=>yp o p.1 p.2:=by
 unfold F0 sp;rw[b,Uz];congr 1;funext a;simp
def D6(n a b:Nat):Nat:=Nat.div (cond (jag a b) (Yj (Vz (Vz 2 n) b) (Vz (Vz 2 n) a)) (Yj (XN (Yj (Vz (Vz 2 n) n) (Vz (Vz 2 n) a)) (Vz (Vz 2 n) b)) 1)) (Yj (Vz 2 n) 1)
def Hx(n a b:Nat):Nat:=cond (jag a b) (Yj (Vz 2 b) (Vz 2 a)) (Yj (XN (Yj (Vz 2 n) (Vz 2 a)) (Vz 2 b)) 1)
def nP(n:Nat)(s:List Nat)(a b:Nat):Nat:=jah (D6 n a b) (Hx n (s.getD a 0) (s.getD b 0))
def KK(m i:Nat):Bool:=WN (jgx (Nat.shiftRight m i) 1) 1
def mR(n a m:Nat):Nat->List Nat->Bool
 |_,[]=>S1
 |x,y::r=>and (or (WN x a) (not (KK m (XN (jah n x) y)))) (mR n a m (Y9 x) r)
def Qk {α:Type}(n:Nat)(f:Nat->α):α:=Nat.rec (f 0) (λk _=>f (Y9 k)) n
def w8 {α:Type}:List Nat->(List Nat->α)->α
 | [],f=>f []
 |a::r,f=>Qk a λb=>w8 r λc=>f (b::c)
def JK(n:Nat)(s:List Nat):List ((Nat×Nat)×Nat):=(Su n).flatMap λa=>((Su n).map λb=>((a,b),nP n s a b)).filter λe=>and (not (WN a e.1.2)) (mR n a e.2 0 s)
structure WK where
 p:Nat×Nat
 q:Nat×Nat
 k:Nat
 e:List Nat
def Qc:List Nat->List Nat->Bool
 | [],[]=>S1
 |a::r,b::u=>and (WN a b) (Qc r u)
 |_,_=>Pa
def IA(A B:Nat):Nat:=XN (jah (jgx A B) (Vz 2 25)) (Nat.xor A B)
def HV(n:Nat)(s:List Nat):List WK:=(JK n s).flatMap λA=>w8 (bN s A.1.1 A.1.2) λs'=>(JK n s').map λB=>Qk (IA A.2 B.2) λk=>⟨A.1,B.1,k,bN s' B.1.1 B.1.2⟩
def Ck(p q:Nat×Nat):Bool:=or (and (WN p.1 q.1) (WN p.2 q.2)) (and (WN p.1 q.2) (WN p.2 q.1))
def zC:List WK->Nat->List Nat->Nat
 | [],_,_=>0
 |v::L,k,e=>cond (WN v.k k) (cond (Qc v.e e) (Y9 (zC L k e)) (zC L k e)) (zC L k e)
def GR(L:List WK):Bool:=L.all λw=>or (Ck w.p w.q) (WN (zC L w.k w.e) 2)
def jo(n:Nat):Nat->List Nat->Bool
 |0,s=>w8 s λs'=>GR (HV n s')
 |k+1,s=>(Su n).all λh=>or (Oo (h∈s)) (jo n k (s++[h]))
theorem Rb:jo 3 3 []=true:=by rfl
theorem QV:jo 4 4 []=true:=by decide+kernel
theorem NQ:jo 5 4 [0]=true:=by decide+kernel
theorem M0:jo 5 4 [1]=true:=by decide+kernel
theorem Nu:jo 5 4 [2]=true:=by decide+kernel
theorem NV:jo 5 4 [3]=true:=by decide+kernel
theorem Nz:jo 5 4 [4]=true:=by decide+kernel
theorem Dv(h: ∀x,x<n->x∉s->jo n k (s++[x])=S1):jo n (k+1) s=true:=by
 unfold jo;refine TZ.mpr λx a=>?_
 by_cases e:x∈s
 ·nofun
 nofun
theorem Rs:jo 5 5 []=true:=Dv λx a _=>by
 have e:x=0\/x=1\/x=2\/x=3\/x=4:=by lia
 rcases e with rfl|rfl|rfl|rfl|rfl
 ·exact NQ
 ·exact M0
 ·exact Nu
 ·exact NV
 ·exact Nz
theorem Mr(a:3<=n)(b:n<=5):jo n n []=true:=by
 have:n=3\/n=4\/n=5:=by grind
 rcases this with rfl|rfl|rfl
 ·exact Rb
 ·exact QV
 ·exact Rs
def Qb(n a b x:Nat):Bool:=Nat.blt (Nat.mod (Yj (XN x n) a) n) (Nat.mod (Yj (XN b n) a) n)
def R3(u v:Bool):Bool:=cond u v (not v)
def G2(n:Nat):Bool:=(Su n).all λa=>(Su n).all λb=>(Su n).all λp=>(Su n).all λq=>and (Nat.blt (jah (D6 n a b) (Hx n p q)) (Vz 2 (jah n n))) ((Su n).all λx=>(Su n).all λy=>R3 (KK (jah (D6 n a b) (Hx n p q)) (XN (jah n x) y)) (and (Qb n a b x) (Qb n p q y)))
theorem QR:G2 3=true:=by rfl
theorem Qv:G2 4=true:=by rfl
theorem Q3:G2 5=true:=by decide+kernel
theorem Mi(a:3<=n)(b:n<=5):G2 n=true:=by
 have:n=3\/n=4\/n=5:=by omega
 grind[QR,Qv,Q3]
theorem Hc(h:0<n)(d:a<n)(b x:Nat):Qb n a b x=dC n a b x:=by
 have c: ∀z:Nat,((z:Int) -a) % n=(((z+n-a) % n:Nat):Int):=λz=>by
  rw[WL,show((z+n-a:Nat):Int)=((z:Int) -a)+n by grind,jaE]
 unfold Qb dC;rw[c,c,VE,vu,Int.ofNat_lt];exact iff_of_eq Nat.blt_eq
theorem AC(m i:Nat):KK m i=m.testBit i:=by
 unfold KK;rw[Nat.testBit_eq_decide_div_mod_eq,VE,vu,Nat.beq_eq,<-Nat.shiftRight_eq_div_pow,<-Nat.and_one_is_mod];rfl
theorem Mb(h:R3 u v=S1):u=v:=by cases u<;>cases v<;>first|rfl|exact absurd h ()
theorem No(l:3<=n)(o:n<=5)(e:a<n)(i:b<n)(c:p<n)(k:q<n):D6 n a b*Hx n p q<2^(n*n)/\ ∀x y,x<n->y<n->(D6 n a b*Hx n p q).testBit (n*x+y)=(dC n a b x&&dC n p q y):=by
 have h:=Mi l o;unfold G2 at h;have R: ∀ {z:Nat},z<n->z∈Su n:=λhz=>SV.mpr hz
 have j:=TZ.mp (TZ.mp (TZ.mp (TZ.mp h a (R e)) b (R i)) p (R c)) q (R k);obtain⟨g,r⟩:=(Vf).mp j;refine⟨Nat.blt_eq.mp g,λx y f m=>?_⟩;have d:=Mb (TZ.mp (TZ.mp r x (R f)) y (R m));rw[AC,Hc (by grind) e,Hc (by omega) c] at d;exact d
theorem BS {α β:Type}{f g:α->List β}{l:List α}(h: ∀a∈l,f a=g a):l.flatMap f=l.flatMap g:=by grind[T9]
theorem ya {α:Type}(n:Nat)(f:Nat->α):Qk n f=f n:=by cases n<;>rfl
theorem kX {α:Type}: ∀(l:List Nat) (f:List Nat->α),w8 l f=f l
 | [],_=>rfl
 |a::r,f=>by unfold w8;rw[ya,kX r]
theorem EB: ∀l m:List Nat,Qc l m=Oo (l=m)
 | [],[]=>rfl
 | [],_::_=>rfl
 |_::_,[]=>rfl
 |a::r,b::u=>by
  unfold Qc;rw[EB r u,VE];simp
theorem sY {n a m:Nat}: ∀(l:List Nat) (k:Nat),mR n a m k l=S1↔ ∀i,i<l.length->k+i≠a->m.testBit (n*(k+i)+l.getD i 0)=Pa
 | [],k=>by simp[mR]
 |y::r,k=>by
  unfold mR;rw[Vf,sY r,AC,jaj,Ut,Nat.beq_eq];constructor
  ·rintro⟨f,d⟩ i c b;cases i with
   |zero=>exact f.resolve_left b
   |succ i=>
    have t:=d i (Wf c);rw[Y2] at t;exact t b
  ·intro h;refine⟨?_,λi c b=>?_⟩
   ·by_cases e:k=a
    ·exact .inl e
    ·exact .inr (h 0 (Nat.zero_lt_succ _) e)
   ·rw[Y2] at b⊢;exact h (i+1) (Nat.succ_lt_succ c) b
theorem wk{o:List Nat}(e:3<=n)(f:n<=5)(O:Ord n o)(c:a<n)(d:b<n):nP n o a b<2^(n*n)/\ ∀x y,x<n->y<n->(nP n o a b).testBit (n*x+y)=(dC n a b x&&dC n (o.getD a 0) (o.getD b 0) y):=No e f c d (O.get c) (O.get d)
theorem Oh(k:3<=n)(m:n<=5)(O:Ord n o)(g:a<n)(j:b<n)(l:a≠b):mR n a (nP n o a b) 0 o=gy o a b:=by
 rw[VE,sY,pd O g j l,O.len];have B:=(wk k m O g j).2;constructor
 ·rintro h x c ⟨f,i2,d,p⟩;have:=h x c (by nofun);rw[Xe,B x _ c (O.get c),f,d] at this;lia
 ·intro h x c i;rw[Xe] at i⊢;rw[B x _ c (O.get c)];cases f:dC n a b x with
  |false=>rfl
  |true=>
   cases d:dC n (o.getD a 0) (o.getD b 0) (o.getD x 0) with
   |false=>rfl
   |true=>exact absurd ⟨f,i,d,λe=>i (O.inj c g e)⟩ (h x c)
theorem Bu(f:3<=n)(g:n<=5)(O:Ord n o):JK n o=(sp n (gy o)).map λp=>(p,nP n o p.1 p.2):=by
 unfold JK sp;rw[Uz];refine BS λa c=>?_
 have c:=SV.mp c;rw[X5,S4];have:(Su n).filter ((λe:(Nat×Nat)×Nat=>and (not (WN a e.1.2)) (mR n a e.2 0 o))∘λb=>((a,b),nP n o a b))=(Su n).filter λb=>decide (a≠b)&&gy o a b:=by
  refine Xq λb d=>?_
  have d:=SV.mp d;show and (not (WN a b)) (mR n a (nP n o a b) 0 o)=_
  by_cases e:a=b
  ·subst e;simp
  grind[Ws,Oh]
 nofun
abbrev Wy:=(Nat×Nat)×(Nat×Nat)
def wy(n:Nat)(o:List Nat):List Wy:=(sp n (gy o)).flatMap λp=>(sp n (gy (bN o p.1 p.2))).map λq=>(p,q)
abbrev vd(o:List Nat)(w:Wy):List Nat:=bN (bN o w.1.1 w.1.2) w.2.1 w.2.2
def yq(n:Nat)(o:List Nat)(w:Wy):Nat:=IA (nP n o w.1.1 w.1.2) (nP n (bN o w.1.1 w.1.2) w.2.1 w.2.2)
theorem n5{w:Wy}:w∈wy n o↔(w.1.1<n/\w.1.2<n/\w.1.1≠w.1.2/\gy o w.1.1 w.1.2=S1)/\(w.2.1<n/\w.2.2<n/\w.2.1≠w.2.2/\gy (bN o w.1.1 w.1.2) w.2.1 w.2.2=S1):=by
 unfold wy;rw[Vr];constructor
 ·rintro⟨p,b,h⟩;obtain⟨q,d,rfl⟩:=SY.mp h;exact⟨hH.mp b,hH.mp d⟩
 ·rintro⟨c,a⟩;exact⟨w.1,hH.mpr c,SY.mpr ⟨w.2,hH.mpr a,rfl⟩⟩
theorem P7(n:Nat)(o:List Nat):(wy n o).Nodup:=LL (BO _ _) λ_=>BO _ _
theorem Ord.exx(O:Ord n o)(d:a<n)(c:b<n):Ord n (bN o a b):=⟨(swap_perm o a b (by rw[O.len];exact d) (by rw[O.len];exact c)).trans O.perm⟩
theorem JO(a:3<=n)(b:n<=5)(O:Ord n o):HV n o=(wy n o).map λw=>⟨w.1,w.2,yq n o w,vd o w⟩:=by
 unfold HV wy;rw[Bu a b O,jbQ,Uz];refine BS λp d=>?_
 obtain⟨e,c,_⟩:=hH.mp d;rw[kX,Bu a b (O.exx e c),S4,S4];refine T9 λq _=>?_
 rw[Ya,Ya,ya];rfl
theorem AJ(k:Nat)(e:List Nat): ∀L:List WK,zC L k e=(L.filter λv=>decide (v.k=k/\v.e=e)).length
 | []=>rfl
 |v::L=>by
  unfold zC;rw[AJ k e L,VV,EB]
  by_cases b:v.k=k
  ·by_cases a:v.e=e
   ·nofun
   lia
  ·grind[Ws]
theorem Nh {α:Type}{l:List α}(e:l.Nodup)(h:l.length=2){w:α}(hw:w∈l): ∃c,c∈l/\c≠w/\ ∀v∈l,v=w\/v=c:=by
 match l,h with
 | [a,b],_=>
   have d:a≠b:=by nofun
   rcases S6.mp hw with rfl|h
   ·exact⟨b,by simp,d.symm,λv hv=>by nofun⟩
   nofun
def ip(n:Nat)(o:List Nat)(p:Nat×Nat)(x y:Nat):Bool:=dC n p.1 p.2 x&&dC n (o.getD p.1 0) (o.getD p.2 0) y
def MH(n:Nat)(o:List Nat)(w:Wy)(x y:Nat):Nat:=(ip n o w.1 x y).toNat+(ip n (bN o w.1.1 w.1.2) w.2 x y).toNat
structure Inn(n:Nat)(w:Wy):Prop where
 a:w.1.1<n
 b:w.1.2<n
 c:w.2.1<n
 d:w.2.2<n
def N8(n:Nat)(o:List Nat)(v w:Wy):Prop:=(∀x y,x<n->y<n->MH n o v x y=MH n o w x y)/\vd o v=vd o w
theorem GI {A B C D:Nat}(b:A<2^25)(a:B<2^25)(c:C<2^25)(d:D<2^25):IA A B=IA C D↔A&&& B=C&&& D/\A^^^B=C^^^D:=by
 have e:A^^^B<2^25:=jaG b a;have f:C^^^D<2^25:=jaG c d;show(A&&& B)*2^25+(A^^^B)=(C&&& D)*2^25+(C^^^D)↔_;lia
theorem Kt(j:3<=n)(g:n<=5)(O:Ord n o)(V:Inn n v)(W:Inn n w):yq n o v=yq n o w↔ ∀x y,x<n->y<n->MH n o v x y=MH n o w x y:=by
 obtain⟨L,l⟩:=wk j g O V.a V.b;obtain⟨J,k⟩:=wk j g (O.exx V.a V.b) V.c V.d;obtain⟨K,p⟩:=wk j g O W.a W.b;obtain⟨M,q⟩:=wk j g (O.exx W.a W.b) W.c W.d;have G:n*n<=25:=V3 g g;have I:(2:Nat)^(n*n)<=2^25:=TW () G;unfold yq;rw[GI ⋯ (by grind) ⋯ (by grind)];constructor
 ·rintro⟨C,F⟩ x y e f;have r:(nP n o v.1.1 v.1.2&&& nP n (bN o v.1.1 v.1.2) v.2.1 v.2.2).testBit (n*x+y)=(nP n o w.1.1 w.1.2&&& nP n (bN o w.1.1 w.1.2) w.2.1 w.2.2).testBit (n*x+y):=by rw[C]
  have u:(nP n o v.1.1 v.1.2^^^nP n (bN o v.1.1 v.1.2) v.2.1 v.2.2).testBit (n*x+y)=(nP n o w.1.1 w.1.2^^^nP n (bN o w.1.1 w.1.2) w.2.1 w.2.2).testBit (n*x+y):=by rw[F]
  rw[ZE,ZE,l x y e f,k x y e f,p x y e f,q x y e f] at r;rw[W2,W2,l x y e f,k x y e f,p x y e f,q x y e f] at u;show(ip n o v.1 x y).toNat+(ip n (bN o v.1.1 v.1.2) v.2 x y).toNat=(ip n o w.1 x y).toNat+(ip n (bN o w.1.1 w.1.2) w.2 x y).toNat;change (ip n o v.1 x y&&ip n (bN o v.1.1 v.1.2) v.2 x y)=(ip n o w.1 x y&&ip n (bN o w.1.1 w.1.2) w.2 x y) at r;change (ip n o v.1 x y^^ip n (bN o v.1.1 v.1.2) v.2 x y)=(ip n o w.1 x y^^ip n (bN o w.1.1 w.1.2) w.2 x y) at u;lia
 ·intro h;have H: ∀i,((nP n o v.1.1 v.1.2).testBit i&&(nP n (bN o v.1.1 v.1.2) v.2.1 v.2.2).testBit i)=((nP n o w.1.1 w.1.2).testBit i&&(nP n (bN o w.1.1 w.1.2) w.2.1 w.2.2).testBit i)/\((nP n o v.1.1 v.1.2).testBit i^^(nP n (bN o v.1.1 v.1.2) v.2.1 v.2.2).testBit i)=((nP n o w.1.1 w.1.2).testBit i^^(nP n (bN o w.1.1 w.1.2) w.2.1 w.2.2).testBit i):=λi=>by
   by_cases D:i<n*n
   ·have e:i / n<n:=Nat.div_lt_of_lt_mul D;have f:i % n<n:=UM _ (by grind);have m:=h (i / n) (i % n) e f;have t:=l _ _ e f;have s:=k _ _ e f;have B:=p _ _ e f;have A:=q _ _ e f;rw[Nat.div_add_mod] at t s B A;rw[t,s,B,A];change (ip n o v.1 (i / n) (i % n)).toNat+(ip n (bN o v.1.1 v.1.2) v.2 (i / n) (i % n)).toNat=(ip n o w.1 (i / n) (i % n)).toNat+(ip n (bN o w.1.1 w.1.2) w.2 (i / n) (i % n)).toNat at m;show(ip n o v.1 (i / n) (i % n)&&ip n (bN o v.1.1 v.1.2) v.2 (i / n) (i % n))=(ip n o w.1 (i / n) (i % n)&&ip n (bN o w.1.1 w.1.2) w.2 (i / n) (i % n))/\(ip n o v.1 (i / n) (i % n)^^ip n (bN o v.1.1 v.1.2) v.2 (i / n) (i % n))=(ip n o w.1 (i / n) (i % n)^^ip n (bN o w.1.1 w.1.2) w.2 (i / n) (i % n));revert m;cases ip n o v.1 (i / n) (i % n)<;>cases ip n (bN o v.1.1 v.1.2) v.2 (i / n) (i % n)<;>cases ip n o w.1 (i / n) (i % n)<;>cases ip n (bN o w.1.1 w.1.2) w.2 (i / n) (i % n)<;>decide
   ·have E: ∀ {z:Nat},z<2^(n*n)->z.testBit i=false:=λhz=>Wh (SQ hz (TW () (by nofun)))
    nofun
  exact⟨WG λi=>by nofun,WG λi=>by nofun⟩
theorem AA: ∀(k:Nat) (s u:List Nat),jo n k s=S1->u.length=k->(s++u).Nodup->(∀v∈s++u,v<n)->GR (HV n (s++u))=S1
 |0,s,u,h,a,_,_=>by
  grind[jo,kX]
 |k+1,s,u,h,a,b,lt=>by
  match u,a with
  |x::u,a=>
   have e:s++x::u=(s++[x])++u:=by simp
   unfold jo at h;have c:=TZ.mp h x (SV.mpr (lt x (by simp)));have d:x∉s:=λm=>(TX.mp b).2.2 x m x (by simp) rfl
   rw[v7 d] at c;rw[e] at b lt⊢;exact AA k (s++[x]) u c (by simpa using a) b lt
theorem KS(h:GR L=S1){w:WK}(hw:w∈L)(b:Ck w.p w.q=Pa):zC L w.k w.e=2:=by
 unfold GR at h;have a:=TZ.mp h w hw;nofun
theorem Dw(d:3<=n)(f:n<=5)(O:Ord n o){w:Wy}(hw:w∈wy n o)(q:Ck w.1 w.2=Pa): ∃a,a∈wy n o/\a≠w/\N8 n o a w/\ ∀v∈wy n o,N8 n o v w->v=w\/v=a:=by
 have c:GR (HV n o)=true:=AA n [] o (Mr d f) O.len O.nd (λv hv=>O.lt hv);rw[JO d f O] at c;have i:=KS c (w:=⟨w.1,w.2,yq n o w,vd o w⟩) (SY.mpr ⟨w,hw,rfl⟩) q;have b: ∀v∈wy n o,Inn n v:=λv hv=>⟨(n5.mp hv).1.1,(n5.mp hv).1.2.1,(n5.mp hv).2.1,(n5.mp hv).2.2.1⟩
 rw[AJ,X5,SO] at i;have is: ∀v∈wy n o,(((λv:WK=>decide (v.k=yq n o w/\v.e=vd o w))∘λw=>(⟨w.1,w.2,yq n o w,vd o w⟩:WK)) v=S1↔N8 n o v w):=λv hv=>by
  rw[Ya,vu,Kt d f O (b v hv) (b w hw)];rfl
 obtain⟨a,p,j,l⟩:=Nh ((P7 n o).filter _) i (w:=w) (Tg.mpr ⟨hw,(is w hw).mpr ⟨λ_ _ _ _=>rfl,rfl⟩⟩);obtain⟨g,m⟩:=Tg.mp p;exact⟨a,g,j,(is a g).mp m,λv hv h=>l v (Tg.mpr ⟨hv,(is v hv).mpr h⟩)⟩
theorem J1:WN a b=Oo (a=b):=by
 by_cases h:a=b
 ·subst h;simp
 grind[Ws]
def DZ(n:Nat)(r x o:List Nat):List Wy:=(sp n (bH r x o)).flatMap λp=>(sp n (bH r x (bN o p.1 p.2))).map λq=>(p,q)
theorem Fi: ∀n,n<=5-> ∀a,a<n-> ∀b,b<n->a≠b-> ∀x,x<n->dC n a b x= !dC n b a x:=by decide+kernel
theorem gA: ∀n,n<=5-> ∀a,a<n-> ∀b,b<n->a≠b->dC n a b a=true:=by decide+kernel
theorem gH{r x o:List Nat}(O:Ord n o)(R:Ord n r)(X:Ord n x):j7 r x o a b=S1↔ ∀c,c<n->ip n o (a,b) c (r.getD c 0)=Pa/\ip n o (a,b) c (x.getD c 0)=false:=by
 unfold j7 ip;rw[O.len,Ut,Xk];simp only[ng,X2,vu,not_or,not_and,ZP];constructor
 ·intro h c d;cases i:dC n a b c with
  |false=>lia
  |true=>
   obtain⟨f,e⟩:=h c ⟨d,i⟩;exact⟨.inr (jbu.mpr (f (R.get d))),.inr (jbu.mpr (e (X.get d)))⟩
 grind
theorem oh{r x o:List Nat}(O:Ord n o)(R:Ord n r)(X:Ord n x):w∈DZ n r x o↔w∈wy n o/\ ∀c,c<n->MH n o w c (r.getD c 0)=0/\MH n o w c (x.getD c 0)=0:=by
 have z: ∀ {p q:Bool},p.toNat+q.toNat=0↔p=Pa/\q=false:=λ{p q}=>by simp
 have m:w∈DZ n r x o↔(w.1.1<n/\w.1.2<n/\w.1.1≠w.1.2/\bH r x o w.1.1 w.1.2=S1)/\(w.2.1<n/\w.2.2<n/\w.2.1≠w.2.2/\bH r x (bN o w.1.1 w.1.2) w.2.1 w.2.2=S1):=by
  unfold DZ;rw[Vr];constructor
  ·rintro⟨p,s,h⟩;obtain⟨q,u,rfl⟩:=SY.mp h;exact⟨hH.mp s,hH.mp u⟩
  ·rintro⟨t,l⟩;exact⟨w.1,hH.mpr t,SY.mpr ⟨w.2,hH.mpr l,rfl⟩⟩
 rw[m,n5];unfold bH MH;constructor
 ·rintro⟨⟨b,d,i,y⟩,g,e,k,B⟩;obtain⟨f,A⟩:=Vf.mp y;obtain⟨j,v⟩:=Vf.mp B;refine⟨⟨⟨b,d,i,f⟩,g,e,k,j⟩,λc a=>?_⟩;obtain⟨D,C⟩:=(gH O R X).mp A c a;obtain⟨F,E⟩:=(gH (O.exx b d) R X).mp v c a;nofun
 ·rintro⟨⟨⟨b,d,i,f⟩,g,e,k,j⟩,h⟩;refine⟨⟨b,d,i,Vf.mpr ⟨f,(gH O R X).mpr λc a=>⟨(z.mp (h c a).1).1,(z.mp (h c a).2).1⟩⟩⟩,g,e,k,Vf.mpr ⟨j,(gH (O.exx b d) R X).mpr λc a=>⟨(z.mp (h c a).1).2,(z.mp (h c a).2).2⟩⟩⟩
theorem ND(s:n<=5)(O:Ord n o)(R:Ord n r)(X:Ord n x){w:Wy}(h:w∈DZ n r x o):Ck w.1 w.2=false:=by
 obtain⟨D,A⟩:=(oh O R X).mp h;obtain⟨⟨⟨a,b⟩,c,d⟩⟩:Nonempty Wy:=⟨w⟩
 obtain⟨⟨a,b⟩,c,d⟩:=w;obtain⟨⟨f,j,m,_⟩,_⟩:=n5.mp D;dsimp only at f j m;have z: ∀ {p q:Bool},p.toNat+q.toNat=0->p=Pa/\q=false:=λ{p q}=>by simp
 cases e:Ck (a,b) (c,d) with
 |false=>rfl
 |true=>
  exfalso;unfold Ck at e;rw[J1,J1,J1,J1] at e;have F:=O.len;have B:(bN o a b).getD a 0=o.getD b 0:=by rw[fj (by nofun) (by nofun),if_neg m,if_pos rfl]
  have C:(bN o a b).getD b 0=o.getD a 0:=by rw[fj (by nofun) (by nofun),if_pos rfl]
  have l:o.getD a 0≠o.getD b 0:=λe=>m (O.inj f j e)
  rcases jaj.mp e with e|e
  ·have u:a=c:=by lia
   have v:b=d:=by lia
   subst u v;obtain⟨k,g⟩:=z ((A a f).1);unfold ip at k g;dsimp only at k g;rw[B,C,gA n s a f b j m,VR] at g;rw[gA n s a f b j m,VR,Fi n s _ (O.get f) _ (O.get j) l _ (R.get f),g] at k;nofun
  ·have u:a=d:=by lia
   have v:b=c:=by lia
   subst u v;obtain⟨i,t,E⟩:=Vn (R.has (O.get f));have t:i<n:=by rw[<-R.len];exact t
   have y:r.getD i 0=o.getD a 0:=by nofun
   obtain⟨k,g⟩:=z ((A i t).1);unfold ip at k g;dsimp only at k g;rw[B,C,y,gA n s _ (O.get f) _ (O.get j) l,jek] at g;rw[y,gA n s _ (O.get f) _ (O.get j) l,jek,Fi n s a f b j m i t,g] at k;nofun
theorem PL(j:3<=n)(e:n<=5)(O:Ord n o)(R:Ord n r)(X:Ord n x)(h:w∈DZ n r x o): ∃a,a∈DZ n r x o/\a≠w/\N8 n o a w/\ ∀v∈DZ n r x o,N8 n o v w->v=w\/v=a:=by
 obtain⟨i,g⟩:=(oh O R X).mp h;obtain⟨a,l,f,d,k⟩:=Dw j e O i (ND e O R X h);refine⟨a,(oh O R X).mpr ⟨l,λc b=>?_⟩,f,d,λv hv=>k v ((oh O R X).mp hv).1⟩;rw[d.1 c _ b (R.get b),d.1 c _ b (X.get b)];exact g c b
theorem GU(v:Nat): ∀l:List Nat,v∈l-> ∃j,(l.map nI).findIdx? (λd=>ig d (nI v))=p5 j/\j<l.length/\l.getD j 0=v
 | [],h=>absurd h WM
 |y::l,h=>by
  rw[SD,List.findIdx?_cons,jT]
  by_cases e:y=v
  ·nofun
  ·obtain⟨j,b,a,c⟩:=GU v l ((S6.mp h).resolve_left (To e));nofun
structure Sg(n:Nat)(r x:List Nat)(S:Nat->Nat):Prop where
 ev: ∀y,y<n->sV (ay x) (nI (r.getD y 0))=p5 (nI (S y))
 lt: ∀y,y<n->S y<n
 inj: ∀y z,y<n->z<n->S y=S z->y=z
theorem Ov(R:Ord n r)(X:Ord n x): ∃S,Sg n r x S:=by
 have h: ∀y,∃z,y<n->sV (ay x) (nI (r.getD y 0))=p5 (nI z)/\z<n/\x.getD z 0=r.getD y 0:=λy=>by
  by_cases a:y<n
  ·obtain⟨j,f,c,d⟩:=GU (r.getD y 0) x (X.has (R.get a));refine⟨j,λ_=>⟨?_,X.len▸c,d⟩⟩;show(if bM ((r.getD y 0::x).map nI)<=32 then(wG (x.map nI) (nI (r.getD y 0))).map (λj=>D.int j) else Sr)=_;rw[if_pos (by rw[jS];simp)];grind[wG]
  grind
 obtain⟨S,b⟩:=jbR.mp h;exact⟨S,λy a=>(b y a).1,λy a=>(b y a).2.1,λy z a hz e=>R.inj a hz ((b y a).2.2.symm.trans (e▸(b z hz).2.2))⟩
theorem gw {n:Nat}{l:List Nat}(a:l.Nodup)(h: ∀z∈l,z<n):l.length<=n:=by
 have p:l.Perm ((Su n).filter λz=>decide (z∈l)):=(TC a (US _ Uo)).mpr λz=>by
  nofun
 rw[p.length_eq];grind
def Bf(S:Nat->Nat):Nat->Nat->Nat
 |0,s=>s
 |k+1,s=>S (Bf S k s)
def BB(S:Nat->Nat)(s z:Nat):Prop:= ∃k,Bf S k s=z
theorem iz(S:Nat->Nat)(s:Nat):BB S s s:=⟨0,rfl⟩
theorem pD {S:Nat->Nat}(h:BB S s z):BB S s (S z):=let⟨k,e⟩:=h;⟨k+1,by grind[Bf]⟩
theorem zV(S:Nat->Nat)(s m:Nat): ∀k,Bf S k (Bf S m s)=Bf S (k+m) s
 |0=>by rw[Xe];rfl
 |k+1=>by rw[jaM];show S _=S _;rw[zV S s m k]
theorem DH {S:Nat->Nat}(e:BB S a b)(d:BB S b c):BB S a c:=by
 obtain⟨m,rfl⟩:=e;obtain⟨k,rfl⟩:=d;exact⟨k+m,(zV S a m k).symm⟩
structure Wlk(n:Nat)(S:Nat->Nat)(s:Nat)(W:List Nat)(t:Nat):Prop where
 nd:W.Nodup
 lt: ∀z∈W,z<n
 hs:s∈W
 ht:t∈W
 pre: ∀z∈W,z≠s-> ∃y∈W,y≠t/\S y=z
 nxt: ∀z∈W,z≠t->S z∈W
 on: ∀z∈W,BB S s z
 back: ∀z∈W,BB S z t
structure Cyc(n:Nat)(S:Nat->Nat)(s:Nat)(W:List Nat):Prop where
 lt: ∀z∈W,z<n
 mem: ∀z,z∈W↔BB S s z
 back: ∀z,z∈W->BB S z s
section
variable {n:Nat}{r x:List Nat}{S:Nat->Nat}(H:Sg n r x S)
theorem Wlk.start(b:s<n):Wlk n S s [s] s:=
 ⟨by simp,λz hz=>by grind,by grind,by grind,λz hz a=>absurd (Th.mp hz) a,λz hz a=>absurd (Th.mp hz) a,λz hz=>by grind[iz],λz hz=>by grind[iz]⟩
include H
theorem Wlk.notin(w:Wlk n S s W t)(h:S t≠s):S t∉W:=λc=>by
 obtain⟨y,a,d,b⟩:=w.pre _ c h;exact d (H.inj _ _ (w.lt _ a) (w.lt _ w.ht) b)
theorem Wlk.next(w:Wlk n S s W t)(h:S t≠s):Wlk n S s (W++[S t]) (S t):=by
 have d:=w.notin H h;have a: ∀ {P:Nat->Prop},(∀z∈W,P z)->P (S t)-> ∀z∈W++[S t],P z:=λc g z hz=>(Tf.mp hz).elim (c z) λq=>by grind
 refine⟨TX.mpr ⟨w.nd,by simp,λu j v hv=>by grind⟩,a w.lt (H.lt _ (w.lt _ w.ht)),Ub _ w.hs,by simp,a (λz hz b=>?_) (λ_=>⟨t,Ub _ w.ht,λe=>d (e▸w.ht),rfl⟩),a (λz hz b=>?_) (λq=>absurd rfl q),a w.on (pD (w.on _ w.ht)),a (λz hz=>pD (w.back z hz)) (iz S _)⟩
 ·obtain⟨y,f,_,i⟩:=w.pre z hz b;grind
 ·by_cases e:z=t
  ·grind
  ·exact Ub _ (w.nxt z hz e)
omit H in
theorem Wlk.done(w:Wlk n S s W t)(h:S t=s):Cyc n S s W:=by
 refine⟨w.lt,λz=>⟨w.on z,?_⟩,λz hz=>h▸pD (w.back z hz)⟩;rintro⟨k,rfl⟩
 induction k with
 |zero=>exact w.hs
 |succ k a=>
  show S (Bf S k s)∈W
  by_cases e:Bf S k s=t
  ·rw[e,h];exact w.hs
  ·exact w.nxt _ a e
theorem NA(c:s<n): ∃W,Cyc n S s W:=by
 have a: ∀(f:Nat) (W:List Nat) (t:Nat),n<f+W.length->Wlk n S s W t-> ∃W,Cyc n S s W:=by
  intro f
  induction f with
  |zero=>intro W t h w;exact absurd (gw w.nd w.lt) (by nofun)
  |succ f b=>
   intro W t h w
   by_cases e:S t=s
   ·exact⟨W,w.done e⟩
   ·exact b (W++[S t]) (S t) (by grind) (w.next H e)
 exact a (n+1) [s] s ⋯ (Wlk.start c)
theorem GJ(a:s<n)(h:BB S s z):BB S z s:=by
 obtain⟨W,c⟩:=NA H a;exact c.back z ((c.mem z).mpr h)
end
def led(S:Nat->Nat)(s:Nat):Prop:= ∀z,BB S s z->s<=z
noncomputable def jn(S:Nat->Nat)(s:Nat):Bool:= @decide (led S s) (Classical.propDecidable _)
theorem q7 {S:Nat->Nat}:jn S s=S1↔led S s:=by simp[jn]
theorem EF{S:Nat->Nat}(H:Sg n r x S){l W:List Nat}(g:(c::l).Pairwise (·< ·))(lt: ∀z∈c::l,z<n)(a: ∀z∈c::l,S z∈c::l)(C:Cyc n S c W):
 ((c::l).filter (jn S)).length=(((c::l).filter λz=>decide (z∉W)).filter (jn S)).length+1
 /\(∀z∈(c::l).filter (λz=>decide (z∉W)),S z∈(c::l).filter (λz=>decide (z∉W)))
 /\((c::l).filter λz=>decide (z∉W)).length<=l.length:=by
 have m:c<n:=lt c (SM ..);have h: ∀z,BB S c z->z∈c::l:=by
  rintro z ⟨k,rfl⟩
  induction k with
  |zero=>exact SM ..
  |succ k f=>exact a _ f
 have o:c∈W:=(C.mem c).mpr (iz S c);have p:=UN.mp g;have i:led S c:=λz hz=>(S6.mp (h z hz)).elim (λe=>by nofun) λq=>by grind
 have d:(c::l).filter (λz=>decide (z∉W))=l.filter λz=>decide (z∉W):=V6 ⋯
 refine⟨?_,λz hz=>?_,?_⟩
 ·rw[d,Xc (q7.mpr i),SX,Yw];congr 1;refine congrArg Ua (Xq λz hz=>?_);cases e:jn S z
  ·rfl
  ·rw[VR];symm;rw[vu];intro b;have j:=q7.mp e c (C.back z b);grind
 ·rw[Tg,vu] at hz⊢;refine⟨a z hz.1,λq=>hz.2 ?_⟩;rw[C.mem] at q⊢;exact DH q (GJ H (lt z hz.1) ⟨1,rfl⟩)
 grind
theorem Q6: ∀ {l:List Nat},c∈l->l.Nodup->F4 (l.map nI) [nI c]=p5 (.non,(l.filter λz=>decide (z≠c)).map nI):=by
 have b: ∀l:List Nat,cq (l.map nI)=p5 (l.map λ(z:Nat)=>(z:Int)):=by
  intro l
  induction l with
  |nil=>rfl
  |cons z l d=>rw[SD];show(cq (l.map nI)).map _=_;rw[d];rfl
 have f: ∀l:List Nat,c∈l->l.Nodup-> ∃j,(l.map λ(z:Nat)=>(z:Int)).findIdx? (λm=>m==(c:Int))=p5 j/\(l.map nI).eraseIdx j=(l.filter λz=>decide (z≠c)).map nI:=by
  intro l
  induction l with
  |nil=>nofun
  |cons y l d=>
   intro h a;rw[T5] at a
   by_cases e:y=c
   ·subst e;refine⟨0,by grind,?_⟩;rw[SD,List.eraseIdx_cons_zero,V6 (by simp)];rw[Us.mpr];lia
   grind
 intro l h a;obtain⟨j,i,g⟩:=f l h a
 show(match cq (l.map nI) with
  |some ns=>(ns.findIdx? (λm=>m==(c:Int))).map λj=>(D.non,(l.map nI).eraseIdx j)
  |none=>Sr)=_
 grind
def N7:FT:=bJ (ar uD (ar bt (ah 0) (ar bt (cR 3) (yw (aH (.int 1))))) (ah 2))
def N6:FS:=cz (aV 3 1 mj (c8 (af (ar bt (ah 0) (ar bt (cR 3) (yw (aH (.int 1))))) (aj))))
def Qf:FS:=gm (bJ (ar vL (au wB (af (cR 3) (aj))) (ah 2))) ((λρ=>(cz (aV 1 1 mj (c8 (af (ah 3) (aj))))) (DJ 3 ρ))) (el)
def eU:FS:=
 aF (dh 1 (cD (aj)))
 (aF (h8 (c8 (cL (af (au dO (af (ah 0) (aj))) (aj)))) (gN 2) (aF (dh 3 (cD (af (ah 2) (aj))))
 (aF (jA N7 N6 16)
 Qf)))
 (C8 1))
def ie:List D->Option D:=bL .n 4 eU
structure Wl(n:Nat)(S:Nat->Nat)(s:Nat)(W:List Nat)(t:Nat):Prop where
 w:Wlk n S s W t
 last:W.getLast?=p5 t
 eq:W=(Su W.length).map λi=>Bf S i s
structure Cy(n:Nat)(S:Nat->Nat)(s:Nat)(W:List Nat):Prop where
 c:Cyc n S s W
 eq:W=(Su W.length).map λi=>Bf S i s
 per:Bf S W.length s=s
 nd:W.Nodup
 pos:0<W.length
structure Sh(n:Nat)(S:Nat->Nat):Prop where
 lt: ∀y,y<n->S y<n
 inj: ∀y z,y<n->z<n->S y=S z->y=z
theorem Sh.sg{S:Nat->Nat}(H:Sh n S):Sg n ((Su n).map S) (Su n) S:=by
 refine⟨λy a=>?_,H.lt,H.inj⟩;have e:((Su n).map S).getD y 0=S y:=by nofun
 rw[e];obtain⟨j,c,b,d⟩:=GU (S y) (Su n) (SV.mpr (H.lt y a));have:j=S y:=by
  grind
 subst this;show(if bM ((S y::Su n).map nI)<=32 then(wG ((Su n).map nI) (nI (S y))).map (λj=>D.int j) else Sr)=_;rw[if_pos (by rw[jS];simp)];grind[wG]
theorem Wl.start {n:Nat}{S:Nat->Nat}(a:s<n):Wl n S s [s] s:=⟨Wlk.start a,rfl,rfl⟩
theorem Wl.tt{S:Nat->Nat}{W:List Nat}(w:Wl n S s W t):S t=Bf S W.length s:=by
 have h:=w.last;have e:=w.eq;have c:0<W.length:=by
  grind
 rw[WQ] at h;have b:W[W.length-1]? =p5 (Bf S (W.length-1) s):=by
  grind
 have a:=h.symm.trans b;injection a with a
 have:W.length=(W.length-1)+1:=by lia
 grind[Bf]
theorem Wl.next{S:Nat->Nat}(H:Sh n S)(w:Wl n S s W t)(h:S t≠s):Wl n S s (W++[S t]) (S t):=by
 refine⟨w.w.next H.sg h,by simp,?_⟩;rw[S5,UE,List.range_succ,Tb,<-w.eq,w.tt];rfl
theorem Wl.done{S:Nat->Nat}(w:Wl n S s W t)(h:S t=s):Cy n S s W:=by
 refine⟨w.w.done h,w.eq,by rw[<-w.tt];exact h,w.w.nd,?_⟩;have:=w.last;grind
theorem Cy.uniq {n:Nat}{S:Nat->Nat}{s:Nat}{W W':List Nat}(a:Cy n S s W)(b:Cy n S s W'):W=W':=by
 have key: ∀ {W W':List Nat},Cy n S s W->Cy n S s W'-> ¬W.length<W'.length:=λ{W W'} a b h=>by
  have e0:W'[0]? =p5 s:=by rw[b.eq];simp[b.pos];rfl
  have e1:W'[W.length]? =p5 s:=by rw[b.eq];simp[h];exact a.per
  have:=(jbr (by exact b.pos) b.nd).mp (e0.trans e1.symm);have:=a.pos;nofun
 have:W.length=W'.length:=by grind
 rw[a.eq,b.eq,this]
section
variable {n:Nat}{S:Nat->Nat}(H:Sh n S)(hn:n<=14)
abbrev Ii(n:Nat)(S:Nat->Nat)(F:List D)(s:Nat)(W:List Nat):aB:=[.v (.lst (((Su n).map S).map nI)),.own F,.v (nI s),.own (W.map nI)]
theorem IE {W:List Nat}(h:W.getLast?=p5 t):bt (.lst (W.map nI)) (.int (-1))=p5 (nI t):=by
 show qH (W.map nI) (-1)=_;have a:0<W.length:=by
  grind
 unfold qH vW;rw[if_neg (by simp),if_pos (by grind),SG];have:(-1+((W.map nI).length:Int)).toNat=W.length-1:=by grind
 rw[this,Uh,<-WQ,h];rfl
theorem MO(ρ:aB):yw (aH (.int 1)) ρ=p5 (.int (-1)):=rfl
include H in
theorem Hw(w:Wl n S s W t):ar bt (ah 0) (ar bt (cR 3) (yw (aH (.int 1)))) (Ii n S F s W)=p5 (nI (S t)):=by
 refine(ax (x:=.lst (((Su n).map S).map nI)) (y:=nI t) rfl ((ax (x:=.lst (W.map nI)) rfl (MO _)).trans (IE w.last))).trans ?_
 have a:=w.w.lt _ w.w.ht;grind[tf]
include H hn in
theorem vi(F:List D)(s:Nat): ∀(f:Nat) (W:List Nat) (t:Nat),n<f+W.length->Wl n S s W t->
 ∃L,jA N7 N6 f (Ii n S F s W)=.nx (Ii n S F s L)/\Cy n S s L
 |0,W,t,h,w=>absurd (gw w.w.nd w.w.lt) (by nofun)
 |f+1,W,t,h,w=>by
  unfold jA;have a:N7 (Ii n S F s W)=p5 (!Oo (S t=s)):=by
   unfold N7;refine b9 ((ax (x:=nI (S t)) (y:=nI s) (Hw H w) rfl).trans ?_);simp[mC,eZ,jT]
  rw[a]
  by_cases e:S t=s
  ·rw[show(!Oo (S t=s))=Pa by grind];exact⟨W,rfl,w.done e⟩
  ·rw[show(!Oo (S t=s))=S1 by simp[e]];have g:=gw w.w.nd w.w.lt;have b:N6 (Ii n S F s W)=.nx (Ii n S F s (W++[S t])):=by
    unfold N6;refine(vI (i:=3) (bs:=W.map nI) (d:=nI (S t)) rfl (bj (al (Hw H w) rfl)) rfl (by grind)).trans ?_
    unfold Ii;rw[Tb];rfl
   obtain⟨L,j,c⟩:=vi F s f (W++[S t]) (S t) (by grind) (w.next H e);grind
theorem HR: ∀l:List Nat,cq (l.map nI)=p5 (l.map λ(z:Nat)=>(z:Int))
 | []=>rfl
 |z::l=>by simp[cq,HR]
theorem Pz {l:List Nat}{s:Nat}(h:s∈l): ∃v:Int,wB [.lst (l.map nI)]=p5 (.int v)/\(v=s↔ ∀z∈l,s<=z):=by
 refine⟨ml (l.map λ(z:Nat)=>(z:Int)),?_,?_⟩
 ·show((cq (l.map nI)).bind λns=>if ns.isEmpty=S1 then Sr else p5 (D.int (ml ns)))=_;rw[HR];cases l<;>grind
 ·cases l with
  |nil=>nofun
  |cons a l=>
   obtain⟨c,b⟩:=wN (l.map λ(z:Nat)=>(z:Int)) (a:Int);have c:ml ((a::l).map λ(z:Nat)=>(z:Int))∈(a::l).map λ(z:Nat)=>(z:Int):=c
   have b: ∀x∈(a::l).map (λ(z:Nat)=>(z:Int)),ml ((a::l).map λ(z:Nat)=>(z:Int))<=x:=b
   constructor
   ·intro e z hz;have:=b z (SY.mpr ⟨z,hz,rfl⟩);nofun
   ·intro q;have d:=b s (SY.mpr ⟨s,h,rfl⟩);grind
include H hn in
theorem nS: ∃C:Nat->List Nat,(∀s,s<n->Cy n S s (C s))/\
 ie [.lst (((Su n).map S).map nI)]=p5 (.lst (((Su n).filter (jn S)).map λs=>.lst ((C s).map nI))):=by
 have hC: ∀s,∃L,s<n->Cy n S s L:=λs=>by
  by_cases hs:s<n
  ·obtain⟨L,_,h⟩:=vi H hn [] s 16 [s] s (by simp;lia) (Wl.start hs);grind
  ·exact⟨[],λh=>absurd h hs⟩
 obtain⟨C,hC⟩:=jbR.mp hC;refine⟨C,hC,?_⟩;have lp: ∀(l:List Nat),(∀s∈l,s<n)-> ∀(F:List D) (s2 s3:Sl),F.length+l.length<=900-> ∃s2' s3',cu (gN 2) (aF (dh 3 (cD (af (ah 2) (aj)))) (aF (jA N7 N6 16) Qf)) (l.map nI) [.v (.lst (((Su n).map S).map nI)),.own F,s2,s3]
  =.nx [.v (.lst (((Su n).map S).map nI)),.own (F++(l.filter (jn S)).map λs=>.lst ((C s).map nI)),s2',s3']:=by
  intro l
  induction l with
  |nil=>intro _ F s2 s3 _;exact⟨s2,s3,by simp[cu]⟩
  |cons s l ih=>
   intro hl F s2 s3 hF;rw[SX] at hF;have hs:=hl s (SM ..);obtain⟨L,hL,K⟩:=vi H hn F s 16 [s] s (by simp;lia) (Wl.start hs);cases K.uniq (hC s hs);have b1:(aF (dh 3 (cD (af (ah 2) (aj)))) (aF (jA N7 N6 16) Qf)) [.v (.lst (((Su n).map S).map nI)),.own F,.v (nI s),s3]=Qf (Ii n S F s (C s)):=
    (ao (ρ':=Ii n S F s [s]) ((dS (jj (ds:=[nI s]) rfl (by simp))).trans rfl)).trans (ao hL)
   obtain⟨v,hv,hv2⟩:=Pz ((K.c.mem s).mpr (iz S s));have hv3:v=s↔jn S s=true:=hv2.trans ((Iff.intro (λq z hz=>q z ((K.c.mem z).mpr hz)) λq z hz=>q z ((K.c.mem z).mp hz)).trans q7.symm);have ih':=ih λz hz=>hl z (SI _ hz)
   have tt:bJ (ar vL (au wB (af (cR 3) (aj))) (ah 2)) (Ii n S F s (C s))=p5 (jn S s):=by
    refine b9 ((ax (x:=.int v) (y:=nI s) ((cy (ds:=[.lst ((C s).map nI)]) rfl).trans hv) rfl).trans ?_);grind[jP,eZ,ko]
   cases e:jn S s
   ·rw[e] at tt;obtain⟨s2',s3',h⟩:=ih' F (.v (nI s)) (.own ((C s).map nI)) (by grind);refine⟨s2',s3',?_⟩;rw[SD,V6 ⋯,<-h];exact bw (ρ1:=[.v (.lst (((Su n).map S).map nI)),.own F,.v (nI s),s3]) rfl (b1.trans (kl tt))
   ·rw[e] at tt;obtain⟨s2',s3',h⟩:=ih' (F++[.lst ((C s).map nI)]) (.v (nI s)) (.v (.lst ((C s).map nI))) (by grind);refine⟨s2',s3',?_⟩;rw[SD,Xc e,SD,List.append_cons,<-h];exact bw (ρ1:=[.v (.lst (((Su n).map S).map nI)),.own F,.v (nI s),s3]) rfl (b1.trans ((kK tt).trans ((vI (i:=1) (bs:=F) (d:=.lst ((C s).map nI)) rfl (bj rfl) rfl (by grind)).trans rfl)))
 obtain⟨s2',s3',h⟩:=lp (Su n) (λs hs=>SV.mp hs) [] .no .no (by simp;lia);apply aZ (kd:=.n) (n:=4) (t:=eU);unfold eU;refine(ao (ρ':=[.v (.lst (((Su n).map S).map nI)),.own [],.no,.no]) ((dS (jj (ds:=[]) rfl (by simp))).trans rfl)).trans ?_
 refine(ao ((bY (ds:=(Su n).map nI) (bj (cV (n:=n) (al ((Es ((Su n).map S) _ _ rfl).trans (by simp)) rfl) ⋯))).trans h)).trans ?_
 rfl
end
def iI:FS:=
 aF (eF (gT 2 (ij (gN 1) (ij (gN 2) (m9)))) (pu (ah 0)))
 (bX (au (nF 1 ie) (af (bT 1 (yr (ah 1)) (gN 3) (fG) (ar sV (ah 2) (ah 3))) (aj))))
def xC:List D->Option D:=bL .n 3 iI
theorem Sg.sh {n:Nat}{S:Nat->Nat}(H:Sg n r x S):Sh n S:=⟨H.lt,H.inj⟩
theorem Cq(r:List Nat):r=(Su r.length).map λy=>r.getD y 0:=by
 apply U8 (by simp);nofun
theorem CK{S:Nat->Nat}(R:Ord n r)(X:Ord n x)(H:Sg n r x S)(d:n<=8): ∃C:Nat->List Nat,(∀s,s<n->Cy n S s (C s))/\
 xC [bI r x]=p5 (.lst (((Su n).filter (jn S)).map λs=>.lst ((C s).map nI))):=by
 obtain⟨C,b,h⟩:=nS H.sh (by grind);refine⟨C,b,?_⟩;apply aZ (kd:=.n) (n:=3) (t:=iI);unfold iI;refine(ao (ρ':=[.v (bI r x),.v (ay r),.v (ay x)]) (qj (nK rfl) rfl)).trans ?_
 refine ba ((bf (ds:=[.lst (((Su n).map S).map nI)]) (al ?_ rfl) rfl).trans h);refine dm (ds:=r.map nI) (KM rfl) (by rw[SO,R.len];lia) ?_
 have c:r.map nI=(Su n).map λy=>nI (r.getD y 0):=by
  conv=>lhs;rw[Cq r,R.len,S4]
  rfl
 rw[c,S4];refine cZ (Su n) λy a=>?_
 rw[SV] at a;exact⟨_,rfl,(ax (x:=ay x) (y:=nI (r.getD y 0)) rfl rfl).trans (H.ev y a)⟩
theorem zI(h:p ρ=p5 Pa):gm p t el ρ=.nx ρ:=(kl h).trans rfl
theorem F9{a b:Bool}(c:p ρ=p5 a)(d:q ρ=p5 b):xQ p q ρ=p5 (a||b):=by
 cases a with
 |true=>exact LC c
 |false=>exact Fe c d
theorem gp{ds:List D}(h:f ρ=p5 (.lst ds)):nQ f ρ=p5 ds:=by grind[nQ]
structure Gd(n:Nat)(r x:List Nat):Prop where
 R:Ord n r
 X:Ord n x
 lo:2<=n
 hi:n<=6
set_option maxHeartbeats 1000000
def rq:FS:=
 aF (fM 2 (aV 0 1 dw (c8 (af (aH (.int 4)) (aj)))))
 (aF (fM 3 (oM bG (pu (aH (.int 1))) (aV 0 1 dw (c8 (af (ar cw (ah 1) (aH (.int 1))) (aj))))))
 (aF (fM 4 (aV 0 1 gQ (c8 (af (ah 1) (aj)))))
 (aF (yn 5 (aV 0 1 gQ (c8 (af (ah 1) (aj)))))
 (aF (gm (bJ (ar vL (ah 2) (aH (.int 1)))) (aF (br 4 (HH (ah 1)))
 (dh 5 (bT 1 (nQ (ah 4)) (gN 8) (fG) (ar bp (ar bG (ah 8) (ah 3)) (ah 1))))) (el))
 (aF (h8 (c8 (cL (af (ah 1) (aj)))) (gN 6) (aF (br 7 (ar bp (ar bG (ah 6) (aH (.int 1))) (ah 1)))
 (gm (bJ (ar vL (ar bt (cR 5) (ah 6)) (ar bt (ah 4) (ah 6)))) (eF (gT 2 (ij (cA 5 (ah 6)) (ij (cA 5 (ah 7)) (m9)))) (pu (cQ (af (ar bt (cR 5) (ah 7)) (af (ar bt (cR 5) (ah 6)) (aj)))))) (el))))
 (bX (cQ (af (au g9 (af (ah 4) (aj))) (af (au g9 (af (cR 5) (aj))) (aj))))))))))
def sQ:List D->List D->Option (D×List D):=xZ .s 8 rq
theorem yR {N:Nat}(B:Bag N a b){n:Nat}(F:2<=n)(R:n<=6)(hN:N<=800000000): ∃(r x:List Nat) (E b':Int),sQ (bc a b) [nI n]=p5 (bI r x,bc E b')/\Sq n r x/\Bag (N+2*n+2) E b':=by
 obtain⟨p,s,o,J,V,p0,p1⟩:=jd (m:=4) B ⋯ (by simp) (by simp);obtain⟨q,u,l,L,W,q0,q1⟩:=jd (m:=(n:Int) -1) V ⋯ (by grind) (SQ (show((n:Int) -1).natAbs<10^10 by omega) (by simp));obtain⟨r,z,C,T,or,Q⟩:=wx W (n:=n) ⋯ ⋯;obtain⟨x,d,e,S,M,B4⟩:=wx Q (n:=n) ⋯ ⋯;obtain⟨c,rfl⟩: ∃j:Nat,q=(j:Int):=⟨q.toNat,⋯⟩
 have Z:oY 8 (bc a b) [nI n]=[.arg (bc a b),.v (nI n),.no,.no,.no,.no,.no,.no]:=rfl;have I:fM 2 (aV 0 1 dw (c8 (af (aH (.int 4)) (aj)))) [.arg (bc a b),.v (nI n),.no,.no,.no,.no,.no,.no]=.nx [.arg (bc s o),.v (nI n),.v (.int p),.no,.no,.no,.no,.no]:=
  (f6 (cn (i:=0) (n:=1) (b0:=bc a b) (ds:=[.int 4]) rfl (bj rfl) rfl rfl J)).trans rfl
 have U:fM 3 (oM bG (pu (aH (.int 1))) (aV 0 1 dw (c8 (af (ar cw (ah 1) (aH (.int 1))) (aj))))) [.arg (bc s o),.v (nI n),.v (.int p),.no,.no,.no,.no,.no]=.nx [.arg (bc u l),.v (nI n),.v (.int p),.v (nI (c+1)),.no,.no,.no,.no]:=
  (f6 (BC (nK rfl) (cn (i:=0) (n:=1) (b0:=bc s o) (ds:=[.int ((n:Int) -1)]) rfl (bj rfl) rfl rfl L) (show bG (.int 1) (nI c)=p5 (nI (c+1)) by rw[dW];simp;lia))).trans rfl
 have K:fM 4 (aV 0 1 gQ (c8 (af (ah 1) (aj)))) [.arg (bc u l),.v (nI n),.v (.int p),.v (nI (c+1)),.no,.no,.no,.no]=.nx [.arg (bc z C),.v (nI n),.v (.int p),.v (nI (c+1)),.v (.lst (r.map nI)),.no,.no,.no]:=
  (f6 (cn (i:=0) (n:=1) (b0:=bc u l) (ds:=[nI n]) rfl (bj rfl) rfl rfl T)).trans rfl
 have X:yn 5 (aV 0 1 gQ (c8 (af (ah 1) (aj)))) [.arg (bc z C),.v (nI n),.v (.int p),.v (nI (c+1)),.v (.lst (r.map nI)),.no,.no,.no]=.nx [.arg (bc d e),.v (nI n),.v (.int p),.v (nI (c+1)),.v (.lst (r.map nI)),.own (x.map nI),.no,.no]:=
  (J7 (cn (i:=0) (n:=1) (b0:=bc z C) (ds:=[nI n]) rfl (bj rfl) rfl rfl S)).trans rfl
 have D: ∃(f k:List Nat),gm (bJ (ar vL (ah 2) (aH (.int 1)))) (aF (br 4 (HH (ah 1)))
  (dh 5 (bT 1 (nQ (ah 4)) (gN 8) (fG) (ar bp (ar bG (ah 8) (ah 3)) (ah 1))))) (el) [.arg (bc d e),.v (nI n),.v (.int p),.v (nI (c+1)),.v (.lst (r.map nI)),.own (x.map nI),.no,.no]=.nx [.arg (bc d e),.v (nI n),.v (.int p),.v (nI (c+1)),.v (.lst (f.map nI)),.own (k.map nI),.no,.no]/\Ord n f/\Ord n k:=by
  unfold gm bJ;rw[ax (x:=.int p) (y:=.int 1) rfl rfl,jP (by simp[eZ]),ko]
  by_cases G:p=1
  ·refine⟨Su n,(Su n).map λi=>(i+(c+1)) % n,?_,⟨.refl _⟩,ID n F R (c+1) (by simp) ⋯⟩;rw[v3 G];simp only[DL];rw[ao ((aY (zZ (n:=n) ⋯ (ah 1) _ rfl)).trans rfl)];refine(dS (dm (ds:=(Su n).map nI) (ys:=(Su n).map λi=>nI ((i+(c+1)) % n)) rfl (by simp;grind) (cZ _ λi hi=>⟨_,rfl,?_⟩))).trans ?_
   ·exact(ax ((ax (x:=nI i) (y:=nI (c+1)) rfl rfl).trans (MC _ _)) (y:=nI n) rfl).trans (Lc ⋯)
   ·rw[S4];rfl
  ·refine⟨r,x,?_,or,M⟩;rw[v7 G];simp[DL,el]
 obtain⟨f,k,D,g,A⟩:=D;obtain⟨H,P,Y,lp,t,w⟩:=Lu (bc d e) (.int p) (nI (c+1)) g F n 0 k .no .no (by simp) A (λi h=>absurd h (WY _));have O:h8 (c8 (cL (af (ah 1) (aj)))) (gN 6) B7 [.arg (bc d e),.v (nI n),.v (.int p),.v (nI (c+1)),.v (.lst (f.map nI)),.own (k.map nI),.no,.no]=.nx [.arg (bc d e),.v (nI n),.v (.int p),.v (nI (c+1)),.v (.lst (f.map nI)),.own (H.map nI),P,Y]:=by
  unfold h8;rw[bj (cV (n:=n) rfl ⋯)];simp[ZZ,lp]
 refine⟨f,H,d,e,?_,⟨g,t,w⟩,⋯⟩;unfold sQ xZ rq;rw[Z,ao I,ao U,ao K,ao X,ao D];rw[ao O];rfl
theorem MY {kd:Kd}{n:Nat}{t:FS}{bs ds b':List D}{ρ:aB}(h:t (oY n bs ds)=.rt d ρ)(a:qt ρ=p5 b'):xZ kd n t bs ds=p5 (d,b'):=by unfold xZ;nofun
theorem pX {g:FG}{b:FS}{P:Nat->aB->Prop}: ∀(l:List D) (j:Nat),(∀d∈l,∀i ρ,i<j+l.length->P i ρ-> ∃ρ1 ρ2,g d ρ=p5 ρ1/\b ρ1=.nx ρ2/\P (i+1) ρ2)-> ∀ρ,P j ρ-> ∃ρ',cu g b l ρ=.nx ρ'/\P (j+l.length) ρ'
 | [],j,_,ρ,p=>⟨ρ,rfl,p⟩
 |d::l,j,h,ρ,p=>by
  obtain⟨ρ1,ρ2,c,a,m⟩:=h d (SM ..) j ρ (by simp) p;obtain⟨ρ',e,k⟩:=pX l (j+1) (λd' f i ρ n=>h d' (SI _ f) i ρ (by rw[SX];grind)) ρ2 m;exact⟨ρ',(bw c a).trans e,by rw[SX,jfk l.length 1,<-jel];exact k⟩
theorem vF: ∀ns:List Int,hW.intK (iK ns)=p5 ns
 | []=>rfl
 |n::ns=>by
  show(hW.intK (iK ns)).map (n:: ·)=_;simp[vF]
theorem yI(h:iK a=iK b):a=b:=by
 have:=congrArg hW.intK h;grind[vF]
theorem Hn(kvs:lX)(k b:List aP)(d:D):bZ (kf kvs k d) b=if b=k then p5 d else bZ kvs b:=by
 unfold kf bZ;split
 ·rename_i h
  induction kvs with
  |nil=>simp at h
  |cons p kvs g=>
   rw[SD]
   by_cases e:p.1=k
   ·rw[if_pos e,UK]
    by_cases c:b=k
    ·nofun
    ·rw[if_neg c,UK];have f:decide (p.1=b)=false:=v7 λw=>c (w.symm.trans e)
     simp only[f]
     by_cases h':(kvs.any λa=>decide (a.1=k))=S1
     ·lia
     ·have:kvs.map (λa=>if a.1=k then(a.1,d) else a)=kvs:=by
       refine(T9 λq i=>?_).trans (jcj _);grind
      nofun
   grind
 grind
theorem J5(h:bZ kvs k=Sr)(d:D):kf kvs k d=kvs++[(k,d)]:=by
 unfold kf;rw[if_neg];grind[bZ,UZ]
def iX(acc:List (List Int))(k:List Int):List (List Int):=if k∈acc then nC acc k else mS acc k
def xO(ks:List (List Int)):List (List Int):=ks.foldl iX []
theorem wY(acc:List (List Int))(k z:List Int):z∈iX acc k↔(if z=k then¬z∈acc else z∈acc):=by
 unfold iX
 by_cases h:k∈acc
 ·rw[if_pos h];unfold nC;grind
 ·rw[if_neg h];unfold mS;grind
theorem vD {acc:List (List Int)}(a:acc.Nodup)(k:List Int):(iX acc k).Nodup:=by
 unfold iX
 by_cases h:k∈acc
 ·rw[if_pos h];exact V8 X9 a
 ·rw[if_neg h];unfold mS;rw[if_neg h,TX];exact⟨a,by simp,λx b y c e=>by nofun⟩
theorem By: ∀(ks:List (List Int)) {acc:List (List Int)},acc.Nodup->(ks.foldl iX acc).Nodup
 | [],_,h=>h
 |k::ks,_,h=>By ks (vD h k)
theorem v0(z:List Int): ∀(ks acc:List (List Int)),z∈ks.foldl iX acc↔(if z∈acc then(ks.count z) % 2=0 else(ks.count z) % 2=1)
 | [],acc=>by
   simp
 |k::ks,acc=>by
  rw[Vi,v0 z ks (iX acc k),List.count_cons];have h:=wY acc k z
  by_cases e:z=k
  ·rw[if_pos e] at h;have a:(k==z)=true:=by nofun
   rw[a,if_pos rfl]
   by_cases c:z∈acc
   ·rw[if_pos c,if_neg (λw=>h.mp w c)];lia
   ·rw[if_neg c,if_pos (h.mpr c)];lia
  ·rw[if_neg e] at h;have a:(k==z)=false:=by rw[beq_eq_false_iff_ne];exact λw=>e w.symm
   nofun
theorem tK(ks:List (List Int))(z:List Int):z∈xO ks↔(ks.count z) % 2=1:=by
 have:=v0 z ks [];rw[if_neg (by simp)] at this;exact this
theorem GB(ks:List (List Int)):(xO ks).Nodup:=By ks V4
theorem My{z:List Int}(h:z∈xO ks):z∈ks:=by
 have:=(tK ks z).mp h;grind
def fR(ks:List (List Int)):List (List Int):=aU aS (xO ks)
theorem Dx {ks l:List (List Int)}(a:l.Nodup)(h: ∀z,z∈l↔(ks.count z) % 2=1):aU aS l=fR ks:=
 ji ((TC a (GB ks)).mpr λz=>(h z).trans (tK ks z).symm)
theorem rY(kvs:lX)(k:List aP)(d:D):(kf kvs k d).map (·.1)=if(bZ kvs k).isSome then kvs.map (·.1) else kvs.map (·.1)++[k]:=by
 by_cases h:(bZ kvs k).isSome=S1
 ·rw[if_pos h];unfold kf;have:(kvs.any λa=>decide (a.1=k))=true:=by
   unfold bZ at h;nofun
  rw[if_pos this,S4];refine T9 λq _=>?_
  show(if q.1=k then(q.1,d) else q).1=q.1;split<;>rfl
 ·have h:bZ kvs k=none:=by simpa using h
  rw[J5 h,h,Tb];rfl
theorem IM(f:List Int->Nat){acc:List (List Int)}(b:acc.Nodup)(h:k∈acc):((nC acc k).map f).sum+f k=(acc.map f).sum:=by
 unfold nC
 induction acc with
 |nil=>nofun
 |cons a l c=>
  rw[T5] at b
  by_cases e:a=k
  ·subst e;have:l.filter (λz=>decide (z≠a))=l:=Us.mpr λz hz=>v3 λw=>b.1 (w▸hz)
   grind
  grind
theorem EZ(f:List Int->Nat){acc:List (List Int)}(a:acc.Nodup)(k:List Int):((iX acc k).map f).sum % 2=((acc.map f).sum+f k) % 2:=by
 unfold iX
 by_cases h:k∈acc
 ·rw[if_pos h];grind[IM]
 ·rw[if_neg h];grind[mS]
theorem xL(f:List Int->Nat): ∀(ks:List (List Int)) {acc:List (List Int)},acc.Nodup->((ks.foldl iX acc).map f).sum % 2=((acc.map f).sum+(ks.map f).sum) % 2
 | [],acc,_=>by rfl
 |k::ks,acc,a=>by
  rw[Vi,xL f ks (vD a k),SD,jem];have:=EZ f a k;lia
theorem JV(f:List Int->Nat)(ks:List (List Int)):((xO ks).map f).sum % 2=((ks.map f).sum) % 2:=by
 simp[xL,xO]
theorem wA {l m:List Nat}(p:l.Perm m):l.sum=m.sum:=by
 grind
theorem KH(f:List Int->Nat)(ks:List (List Int)):((fR ks).map f).sum % 2=((ks.map f).sum) % 2:=by
 grind[fR,a8,JV]
theorem dG {α:Type}(z:List Int)(g:α->List (List Int)): ∀l:List α,(l.flatMap g).count z=(l.map λy=>(g y).count z).sum
 | []=>rfl
 |a::l=>by simp[dG]
theorem Dg {α:Type} [DecidableEq α]{R:α->α->Prop}(y: ∀a b,R a b->R b a): ∀(m:Nat) (l:List α),l.length=m->l.Nodup->(∀w∈l,∃c,c∈l/\c≠w/\R c w/\ ∀v∈l,R v w->v=w\/v=c)->l.length % 2=0:=by
 intro m
 induction m using jct with
 |_ m n=>
  intro l p f h;cases l with
  |nil=>rfl
  |cons w t=>
   obtain⟨c,k,j,r,B⟩:=h w SM;have i:c∈t:=(S6.mp k).resolve_left j;rw[T5] at f;have lt:=List.length_erase_of_mem i;have o:=ZA i;rw[SX] at p⊢;have:=n (t.erase c).length (by omega) (t.erase c) rfl (f.2.erase c) λv hv=>by
    have d:=(f.2.mem_erase_iff).mp hv;obtain⟨g,z,A,u,q⟩:=h v (SI _ d.2);have vw:v≠w:=λe=>f.1 (e▸d.2)
    have s:g≠w:=λe=>by
     grind
    have x:g≠c:=λe=>by
     grind
    grind
   grind
def zs(l:List Nat):List Int:=l.map Int.ofNat
def uz(k:List Int):List Nat:=k.map Int.toNat
theorem d9(l:List Nat):uz (zs l)=l:=by
 unfold uz zs;rw[S4];exact(T9 λa _=>rfl).trans (jcj l)
def eI(n:Nat)(r x:List Nat)(k:List Int):List (List Int):=(sp n (bH r x (uz k))).map λp=>zs (bN (uz k) p.1 p.2)
def bK(n:Nat)(r x:List Nat)(K:List (List Int)):List (List Int):=K.flatMap (eI n r x)
def cF(n:Nat)(r x:List Nat)(K:List (List Int)):List (List Int):=fR (bK n r x K)
def oj(n:Nat)(K:List (List Int)):Prop:= ∀k∈K,∃o,Ord n o/\k=zs o
theorem Mh(O:Ord n o):oj n (eI n r x (zs o)):=λk a=>by
 unfold eI at a;rw[d9] at a;obtain⟨p,c,rfl⟩:=SY.mp a;obtain⟨d,b,_⟩:=hH.mp c;exact⟨_,O.exx d b,rfl⟩
theorem yc{K:List (List Int)}(h:oj n K):oj n (bK n r x K):=λk a=>by
 obtain⟨y,b,a⟩:=Vr.mp a;obtain⟨o,O,rfl⟩:=h y b;exact Mh O k a
theorem gx {ks:List (List Int)}:z∈fR ks↔ks.count z % 2=1:=by
 grind[fR,a8,tK]
theorem Du(ks:List (List Int)):(fR ks).Nodup:=by
 grind[fR,a8,GB]
theorem t9{K:List (List Int)}(h:oj n K):oj n (cF n r x K):=λk b=>by
 have c:(bK n r x K).count k % 2=1:=gx.mp b;have a:0<(bK n r x K).count k:=by omega
 exact yc h k (jaH.mp a)
theorem vY {α:Type}(f:α->Nat): ∀l:List α,(∀a∈l,f a % 2=0)->(l.map f).sum % 2=0
 | [],_=>rfl
 |a::l,h=>by
  rw[SD,jem];have:=vY f l λb c=>h b (SI _ c)
  have:=h a SM;lia
theorem Np(n:Nat)(r x o:List Nat):(DZ n r x o).Nodup:=LL (BO _ _) λ_=>BO _ _
theorem Nd(n:Nat)(r x o:List Nat):(eI n r x (zs o)).flatMap (eI n r x)=(DZ n r x o).map λw=>zs (vd o w):=by
 unfold eI DZ;rw[d9,jbQ,Uz];congr 1;funext p;rw[d9,S4];rfl
theorem K3 {r x o:List Nat}(O:Ord 2 o)(R:Ord 2 r)(X:Ord 2 x)(f: ∀c,c<2->r.getD c 0≠x.getD c 0):sp 2 (bH r x o)=[]:=by
 cases e:sp 2 (bH r x o) with
 |nil=>rfl
 |cons p l=>
  exfalso;obtain⟨a,b,d,st⟩:=hH.mp (show p∈sp 2 (bH r x o) by nofun);unfold bH at st;rw[TR] at st;have t:=(gH O R X).mp st.2 p.1 a;have no:o.getD p.1 0≠o.getD p.2 0:=λw=>d (O.inj a b w)
  have g:=gA 2 (by simp) p.1 a p.2 b d;have i2:=gA 2 (by simp) _ (O.get a) _ (O.get b) no;have i:=R.get a;have k:=X.get a;have h:=O.get a;have j:=f _ a;unfold ip at t;rw[g] at t;have:o.getD p.1 0=r.getD p.1 0\/o.getD p.1 0=x.getD p.1 0:=by grind
  lia
theorem Ib{r x o:List Nat}(d:2<=n)(k:n<=5)(O:Ord n o)(R:Ord n r)(X:Ord n x)(f: ∀c,c<n->r.getD c 0≠x.getD c 0)(z:List Int):((eI n r x (zs o)).flatMap (eI n r x)).count z % 2=0:=by
 rw[Nd]
 by_cases h:n=2
 ·grind[DZ,K3]
 ·have:((DZ n r x o).map λw=>zs (vd o w)).count z=((DZ n r x o).filter λw=>zs (vd o w)==z).length:=by
   rw[List.count,jcu,X6];rfl
  rw[this];refine Dg (R:=λv w=>N8 n o v w) (λa b h=>⟨λx y f m=>(h.1 x y f m).symm,h.2.symm⟩) _ _ rfl ((Np n r x o).filter _) λw hw=>?_
  obtain⟨j,l⟩:=Tg.mp hw;obtain⟨i,g,d,e,p⟩:=PL ⋯ k O R X j;exact⟨i,Tg.mpr ⟨g,by rw[e.2];exact l⟩,d,e,λv hv=>p v (Tg.mp hv).1⟩
theorem Il{r x:List Nat}(e:2<=n)(g:n<=5)(R:Ord n r)(X:Ord n x)(i: ∀c,c<n->r.getD c 0≠x.getD c 0){K:List (List Int)}(b:oj n K):cF n r x (cF n r x K)=[]:=by
 have h: ∀z,(bK n r x (cF n r x K)).count z % 2=0:=λz=>by
  have a:=KH (λy=>(eI n r x y).count z) (bK n r x K);show((fR (bK n r x K)).flatMap (eI n r x)).count z % 2=0;rw[dG,a,<-dG];show((K.flatMap (eI n r x)).flatMap (eI n r x)).count z % 2=0;rw[List.flatMap_assoc,dG];refine vY _ _ λk d=>?_
  obtain⟨o,O,rfl⟩:=b k d;grind[Ib]
 have: ∀z,z∉cF n r x (cF n r x K):=λz hz=>by
  have f:(bK n r x (cF n r x K)).count z % 2=1:=gx.mp hz;nofun
 exact List.eq_nil_iff_forall_not_mem.mpr this
theorem BR{K L:List (List Int)}(p:K.Perm L):(bK n r x K).Perm (bK n r x L):=p.flatMap_right _
theorem mM(f:List Int->Nat)(p:List Int->Bool): ∀l:List (List Int),(l.map f).sum=((l.filter p).map f).sum+((l.filter λk=> !p k).map f).sum
 | []=>rfl
 |a::l=>by
  have b:=mM f p l;grind
theorem JM(f:List Int->Nat){A B:List (List Int)}(b:A.Nodup)(a:B.Nodup):((gK A B).map f).sum % 2=((A.map f).sum+(B.map f).sum) % 2:=by
 have c:=mM f (λk=>decide (k∉B)) A;have d:=mM f (λk=>decide (k∉A)) B;have p:(A.filter λk=> !Oo (k∉B)).Perm (B.filter λk=> !Oo (k∉A)):=by
  refine(TC (b.filter _) (a.filter _)).mpr λk=>?_
  simp[and_comm]
 grind[gK]
theorem zH(n:Nat)(r x:List Nat)(K:List (List Int)):(cF n r x K).Nodup:=Du _
theorem IQ{A B:List (List Int)}(a:A.Nodup)(b:B.Nodup):cF n r x (aU aS (gK A B))=aU aS (gK (cF n r x A) (cF n r x B)):=by
 symm;refine Dx (oF (zH n r x A) (zH n r x B)) λz=>?_
 have c:(bK n r x (aU aS (gK A B))).count z % 2=((bK n r x A).count z+(bK n r x B).count z) % 2:=by
  rw[(BR (a8 (lt:=aS) (gK A B))).count_eq];unfold bK;rw[dG,dG,dG];exact JM _ a b
 rw[c,la];have e:z∈cF n r x A↔(bK n r x A).count z % 2=1:=gx;have d:z∈cF n r x B↔(bK n r x B).count z % 2=1:=gx;grind
abbrev Cr:=List (List Int)
def lq(a b:List Int):Prop:=aS b a=Pa
theorem Gu(h:lq a b)(k:lq b c):lq a c:=ud h k
theorem r9(h:lq a b)(k:lq b a):a=b:=vN k h
theorem LQ(a b:List Int):lq a b\/lq b a:=by
 unfold lq;grind[tH]
theorem ja(a:List Int):lq a a:=(LQ a a).elim id id
def Top(v:Cr)(t:List Int):Prop:=t∈v/\ ∀z∈v,lq z t
theorem Top.uniq(h:Top v t)(k:Top v t'):t=t':=r9 (k.2 t h.1) (h.2 t' k.1)
theorem Ec: ∀l:Cr,l≠[]-> ∃t,Top l t
 | [a],_=>⟨a,by simp,λz hz=>by rw[Th] at hz;subst hz;exact ja _⟩
 |a::b::l,_=>by
  obtain⟨t,d,c⟩:=Ec (b::l) (by simp);rcases LQ a t with h|h
  ·refine⟨t,SI _ d,λz hz=>?_⟩;grind
  ·refine⟨a,SM,λz hz=>?_⟩;rcases S6.mp hz with rfl|hz
   ·exact ja _
   ·exact Gu (c z hz) h
def Up(v:Cr):Prop:=v.Pairwise lq/\v.Nodup
theorem di: ∀ {v:Cr} {t:List Int},v.Pairwise lq->v.getLast?=p5 t->Top v t
 | [],t,_,h=>by nofun
 | [a],t,_,h=>by cases h;exact⟨by simp,λz hz=>by rw[Th] at hz;grind[ja]⟩
 |a::b::v,t,p,h=>by
  rw[List.getLast?_cons_cons] at h;obtain⟨c,d⟩:=di (UN.mp p).2 h;refine⟨SI _ c,λz hz=>?_⟩;rcases S6.mp hz with rfl|hz
  ·exact(UN.mp p).1 t c
  ·exact d z hz
theorem eB {v:Cr}(h:v.getLast?=Sr):v=[]:=List.getLast?_eq_none_iff.mp h
def nT(A B:Cr):Cr:=aU aS (gK A B)
theorem en {A B:Cr}{z:List Int}:z∈nT A B↔(z∈A/\z∉B)\/(z∈B/\z∉A):=by
 grind[nT,a8,la]
theorem z6 {A B:Cr}(b:A.Nodup)(a:B.Nodup):Up (nT A B):=⟨fB n6 _,(a8 (lt:=aS) _).nodup_iff.mpr (oF b a)⟩
theorem Fg(c:Up A)(d:Up B)(h: ∀z,z∈A↔z∈B):A=B:=
 YZ (λa b _ _ f e=>r9 f e) c.1 d.1 ((TC c.2 d.2).mpr h)
abbrev Ld:=List (List Int×Cr×Cr)
def vl:Ld->(List Int->Bool)->List Int->Nat
 | [],_,_=>0
 |p::L,f,z=>(if(f p.1&&Oo (z∈p.2.2))=S1 then 1 else 0)+vl L f z
def ew(L:Ld)(v:Cr):Prop:= ∃f,∀z,z∈v↔vl L f z % 2=1
theorem D7(f g:List Int->Bool)(z:List Int): ∀L:Ld,vl L (λk=>f k !=g k) z % 2=(vl L f z+vl L g z) % 2
 | []=>rfl
 |p::L=>by
  have d:=D7 f g z L;show((if((f p.1 !=g p.1)&&Oo (z∈p.2.2))=S1 then 1 else 0)+vl L (λk=>f k !=g k) z) % 2=((if(f p.1&&Oo (z∈p.2.2))=S1 then 1 else 0)+vl L f z+((if(g p.1&&Oo (z∈p.2.2))=S1 then 1 else 0)+vl L g z)) % 2;have k: ∀a b c:Bool,(if((a !=b)&&c)=S1 then 1 else 0) % 2=((if(a&&c)=S1 then 1 else 0)+(if(b&&c)=S1 then 1 else 0)) % 2:=by decide
  rw[ZT,k,d,<-ZT,Nat.add_add_add_comm]
theorem kR {f:List Int->Bool}{z:List Int}: ∀ {L:Ld},(∀p∈L,¬(f p.1=S1/\z∈p.2.2))->vl L f z=0
 | [],_=>rfl
 |p::L,h=>by
  rw[vl,if_neg (by rw[TR,vu];exact h p SM),kR (L:=L) λq a=>h q (SI _ a)]
theorem yh {f:List Int->Bool}{z:List Int}{p:List Int×Cr×Cr}: ∀ {L:Ld},(L.map (·.1)).Nodup->p∈L->(f p.1=S1/\z∈p.2.2)->(∀q∈L,q.1≠p.1-> ¬(f q.1=S1/\z∈q.2.2))->vl L f z=1
 | [],_,a,_,_=>by nofun
 |q::L,b,a,g,d=>by
  rw[SD,T5] at b;rcases S6.mp a with e|a
  ·subst e;rw[vl,if_pos (by nofun),kR (f:=f) (z:=z) (L:=L) λq c=>d q (SI _ c) λe=>b.1 (e▸T1 c)]
  ·have h:q.1≠p.1:=λe=>b.1 (e▸T1 a)
   rw[vl,if_neg (by rw[TR,vu];exact d q SM h),yh (f:=f) (z:=z) b.2 a g λq c=>d q (SI _ c)]
theorem JQ {L:Ld}(b:(L.map (·.1)).Nodup){p q:List Int×Cr×Cr}(c:p∈L)(d:q∈L)(e:p.1=q.1):p=q:=by
 induction L with
 |nil=>nofun
 |cons a L f=>
  rw[SD,T5] at b;grind[T1]
theorem HE(f:List Int->Bool)(z:List Int): ∀(L M:Ld),vl (L++M) f z=vl L f z+vl M f z
 | [],M=>by simp[vl]
 |p::L,M=>by simp[vl,HE,jel]
theorem LE {f g:List Int->Bool}: ∀ {L:Ld},(∀p∈L,f p.1=g p.1)->vl L f z=vl L g z
 | [],_=>rfl
 |p::L,h=>by rw[vl,vl,h p SM,LE λq a=>h q (SI _ a)]
theorem ew.nil(L:Ld):ew L []:=⟨λ_=>Pa,λz=>by simp[kR]⟩
theorem ew.add(hv:ew L v)(hw:ew L w)(h: ∀z,z∈u↔(z∈v/\z∉w)\/(z∈w/\z∉v)):ew L u:=by
 obtain⟨f,b⟩:=hv;obtain⟨g,a⟩:=hw;refine⟨λk=>f k !=g k,λz=>?_⟩;rw[D7,h z,b z,a z];lia
theorem ew.ext(hv:ew L v)(h: ∀z,z∈u↔z∈v):ew L u:=by
 obtain⟨f,a⟩:=hv;exact⟨f,λz=>by rw[h,a]⟩
theorem ew.mem {L:Ld}(a:(L.map (·.1)).Nodup){p:List Int×Cr×Cr}(b:p∈L):ew L p.2.2:=by
 refine⟨λk=>decide (k=p.1),λz=>?_⟩
 by_cases hz:z∈p.2.2
 ·rw[yh a b ⟨by simp,hz⟩ λq _ d h=>d (by simpa using h.1)];simp[hz]
 ·rw[kR λq c h=>?_]
  ·simp[hz]
  ·have e:q.1=p.1:=by simpa using h.1
   have:q=p:=JQ a c b e;nofun
theorem ew.more {L:Ld}{t:List Int}{d:Cr×Cr}(hv:ew L v)(c:t∉L.map (·.1)):ew (L++[(t,d)]) v:=by
 obtain⟨f,a⟩:=hv;refine⟨λk=>f k&& !Oo (k=t),λz=>?_⟩;rw[a z];have:vl (L++[(t,d)]) (λk=>f k&& !Oo (k=t)) z=vl L f z:=by
  rw[HE,LE (g:=f) λp b=>?_]
  ·show _+((if((f t&& !Oo (t=t))&&Oo (z∈d.2))=S1 then 1 else 0)+0)=_;simp
  ·grind[T1]
 nofun
theorem ew.top {L:Ld}(k:(L.map (·.1)).Nodup)(ok: ∀p∈L,Top p.2.2 p.1)(h:ew L v)(hv:v≠[]): ∃t,t∈L.map (·.1)/\Top v t:=by
 obtain⟨f,i⟩:=h
 let ks:=(L.map (·.1)).filter f
 have c: ∀z∈v,∃p∈L,f p.1=S1/\z∈p.2.2:=λz hz=>Uj λno=>by
  have:=(i z).mp hz;rw[kR λp e q=>no ⟨p,e,q⟩] at this;nofun
 obtain⟨w,s⟩:=List.exists_mem_of_ne_nil v hv;obtain⟨B,l,y,_⟩:=c w s;have n:ks≠[]:=jaI (Tg.mpr ⟨T1 l,y⟩);obtain⟨t,u,g⟩:=Ec ks n;obtain⟨j,x⟩:=Tg.mp u;obtain⟨p,e,rfl⟩:=SY.mp j;have A:=ok p e;refine⟨p.1,j,(i _).mpr ?_,λz hz=>?_⟩
 ·rw[yh k e ⟨x,A.1⟩ λq d o h=>?_];have a:=(ok q d).2 _ h.2;have b:=g q.1 (Tg.mpr ⟨T1 d,h.1⟩);exact o (r9 b a)
 ·obtain⟨q,d,r,m⟩:=c z hz;exact Gu ((ok q d).2 z m) (g q.1 (Tg.mpr ⟨T1 d,r⟩))
section
theorem nq(K:Cr):Up (cF n r x K):=⟨fB n6 _,zH n r x K⟩
theorem r3 {K:Cr}:z∈cF n r x K↔(bK n r x K).count z % 2=1:=gx
theorem BE {u z:List Int}{K:Cr}:z∈cF n r x (u::K)↔(z∈cF n r x [u]/\z∉cF n r x K)\/(z∈cF n r x K/\z∉cF n r x [u]):=by
 grind[r3,bK]
theorem Iq {K a:Cr}(p:K.Perm a):cF n r x K=cF n r x a:=Fg (nq _) (nq _) λz=>by rw[r3,r3,(BR p).count_eq]
theorem Nj {A B:Cr}(b:A.Nodup)(a:B.Nodup):cF n r x (nT A B)=nT (cF n r x A) (cF n r x B):=IQ b a
theorem Bz: ∀ {K:Cr},(∀u∈K,ew L (cF n r x [u]))->ew L (cF n r x K)
 | [],_=>ew.nil L
 |u::K,h=>ew.add (h u SM) (Bz λv hv=>h v (SI _ hv)) λz=>BE
end
def rP(L:Ld)(t:List Int):Option (Cr×Cr):=(L.find? λp=>decide (p.1=t)).map (·.2)
theorem ve(h:rP L t=p5 d):(t,d)∈L:=by
 unfold rP at h;obtain⟨p,a,rfl⟩:=S0.mp h;grind[WO]
theorem Kz {L:Ld}(h:rP L t=Sr):t∉L.map (·.1):=λq=>by
 obtain⟨p,a,rfl⟩:=SY.mp q;unfold rP at h;grind[UZ]
def qI(L:Ld):Nat->Cr×Cr->Cr×Cr
 |0,p=>p
 |f+1,p=>match p.2.getLast? with
  |none=>p
  |some t=>match rP L t with
   |none=>p
   |some d=>qI L f (nT p.1 d.1,nT p.2 d.2)
section
variable {n:Nat}{r x:List Nat}{S:Cr}{hm:List Int->Int×Int}{dn:Int×Int->Int×Int}
structure LOk(n:Nat)(r x:List Nat)(hm:List Int->Int×Int)(dn:Int×Int->Int×Int)(P:Cr)(L:Ld):Prop where
 nd:(L.map (·.1)).Nodup
 top: ∀p∈L,Top p.2.2 p.1
 up1: ∀p∈L,Up p.2.1
 up2: ∀p∈L,Up p.2.2
 sub: ∀p∈L,∀z∈p.2.1,z∈P
 bd: ∀p∈L,cF n r x p.2.1=p.2.2
 hh: ∀p∈L,∃h,(∀z∈p.2.1,hm z=h)/\ ∀z∈p.2.2,hm z=dn h
structure RI(n:Nat)(r x:List Nat)(hm:List Int->Int×Int)(dn:Int×Int->Int×Int)(P:Cr)(L:Ld)(s:List Int)(p:Cr×Cr):Prop where
 u1:Up p.1
 u2:Up p.2
 bd:cF n r x p.1=p.2
 me:s∈p.1
 sb: ∀z∈p.1,z=s\/z∈P
 h1: ∀z∈p.1,hm z=hm s
 h2: ∀z∈p.2,hm z=dn (hm s)
 sp: ∃w,ew L w/\ ∀z,z∈w↔(z∈p.2/\z∉cF n r x [s])\/(z∈cF n r x [s]/\z∉p.2)
theorem RI.step{s t:List Int}{p d:Cr×Cr}(g: ∀a b,dn a=dn b->a=b)(o:LOk n r x hm dn P L)(i:s∉P)(R:RI n r x hm dn P L s p)(l:t∈p.2)(c:(t,d)∈L):RI n r x hm dn P L s (nT p.1 d.1,nT p.2 d.2):=by
 have j:=o.top _ c;obtain⟨h,k,f⟩:=o.hh _ c;have e:h=hm s:=g _ _ ((f t j.1).symm.trans (R.h2 t l));subst e;obtain⟨w,m,u⟩:=R.sp;refine⟨z6 R.u1.2 (o.up1 _ c).2,z6 R.u2.2 (o.up2 _ c).2,?_,en.mpr (.inl ⟨R.me,λq=>i (o.sub _ c _ q)⟩),λz hz=>?_,λz hz=>?_,λz hz=>?_,nT w d.2,m.add (ew.mem o.nd c) λz=>en,λz=>?_⟩
 ·show cF n r x (nT p.1 d.1)=nT p.2 d.2;rw[Nj R.u1.2 (o.up1 _ c).2,R.bd,o.bd _ c]
 ·rcases en.mp hz with q|q
  ·exact R.sb z q.1
  ·exact .inr (o.sub _ c z q.1)
 ·rcases en.mp hz with q|q
  ·exact R.h1 z q.1
  ·exact k z q.1
 ·rcases en.mp hz with q|q
  ·exact R.h2 z q.1
  ·exact f z q.1
 ·grind[en]
def LB(S:Cr)(t:List Int):Nat:=(S.filter λz=> !aS t z).length
theorem GM(h:t∈S):0<LB S t:=ZA (Tg.mpr ⟨h,by rw[show aS t t=Pa from ja t];rfl⟩)
theorem LU(h:t∈S)(b:lq t' t)(c:t'≠t):LB S t'<LB S t:=by
 unfold LB;have a:(S.filter λz=> !aS t' z).Sublist (S.filter λz=> !aS t z):=by
  have e:(S.filter λz=> !aS t' z)=(S.filter λz=> !aS t z).filter λz=> !aS t' z:=by
   rw[Yw];refine Xq λz _=>?_
   cases q:aS t' z with
   |true=>rfl
   |false=>rw[show aS t z=Pa from Gu q b];rfl
  rw[e];exact X9
 refine jaF a.length_le λe=>?_
 have:=a.eq_of_length e;have m:t∈S.filter λz=> !aS t z:=Tg.mpr ⟨h,by rw[show aS t t=Pa from ja t];rfl⟩
 rw[<-this] at m;have:=(Tg.mp m).2;have q:lq t t':=by simpa [lq] using this
 exact c (r9 b q)
theorem oC{L:Ld}(j: ∀a b,dn a=dn b->a=b)(o:LOk n r x hm dn P L)(l:s∉P): ∀(f:Nat) (p:Cr×Cr),RI n r x hm dn P L s p->(∀z∈p.2,z∈S)->(∀q∈L,∀z∈q.2.2,z∈S)->(∀t,p.2.getLast?=p5 t->LB S t<=f)->
 RI n r x hm dn P L s (qI L f p)/\((qI L f p).2=[]\/ ∃t,(qI L f p).2.getLast?=p5 t/\t∉L.map (·.1))
 |0,p,R,g,_,u=>by
  refine⟨R,.inl ?_⟩;show p.2=[];cases e:p.2.getLast? with
  |none=>exact eB e
  |some t=>have:=GM (g t (di R.u2.1 e).1);nofun
 |f+1,p,R,g,m,u=>by
  unfold qI;cases e:p.2.getLast? with
  |none=>exact⟨R,.inl (eB e)⟩
  |some t=>
   dsimp only;cases k:rP L t with
   |none=>exact⟨R,.inr ⟨t,e,Kz k⟩⟩
   |some d=>
    have i:=ve k;have h:=di R.u2.1 e;have w:=R.step j o l h.1 i;refine oC j o l f _ w (λz hz=>?_) m λt' B=>?_
    ·rcases en.mp hz with q|q
     ·exact g z q.1
     ·exact m _ i z q.1
    ·have c:=di w.u2.1 B;have v:=o.top _ i;have A:t'≠t:=λq=>by
      subst q;rcases en.mp c.1 with q|q
      ·exact q.2 v.1
      ·exact q.2 h.1
     have y:lq t' t:=by
      rcases en.mp c.1 with q|q
      ·exact h.2 _ q.1
      ·exact v.2 _ q.1
     have:=LU (g t h.1) y A;have:=u t e;lia
end
abbrev pJ:=List (List Int×Cr)
def sj(n:Nat)(r x:List Nat)(F:Nat)(st:pJ×Ld)(s:List Int):pJ×Ld:=
 match (qI st.2 F ([s],cF n r x [s])).2.getLast? with
 |none=>(st.1++[(s,(qI st.2 F ([s],cF n r x [s])).1)],st.2)
 |some t=>(st.1,st.2++[(t,qI st.2 F ([s],cF n r x [s]))])
section
variable {n:Nat}{r x:List Nat}{S:Cr}{hm:List Int->Int×Int}{dn:Int×Int->Int×Int}
structure Wd(n:Nat)(r x:List Nat)(S:Cr)(hm:List Int->Int×Int)(dn:Int×Int->Int×Int):Prop where
 up:Up S
 dj: ∀a b,dn a=dn b->a=b
 bs: ∀K:Cr,(∀z∈K,z∈S)-> ∀z∈cF n r x K,z∈S
 bb: ∀K:Cr,(∀z∈K,z∈S)->cF n r x (cF n r x K)=[]
 bh: ∀u∈S,∀z∈cF n r x [u],hm z=dn (hm u)
structure EI(n:Nat)(r x:List Nat)(S:Cr)(hm:List Int->Int×Int)(dn:Int×Int->Int×Int)(P:Cr)(C:pJ)(L:Ld):Prop where
 lo:LOk n r x hm dn P L
 le: ∀q∈L,∀z∈q.2.2,z∈S
 c1: ∀p∈C,Top p.2 p.1
 c2: ∀p∈C,Up p.2
 c3: ∀p∈C,∀z∈p.2,z∈P
 c4: ∀p∈C,cF n r x p.2=[]
 c5: ∀p∈C,∀z∈p.2,hm z=hm p.1
 cs:(C.map (·.1)).Sublist P
 sp: ∀u∈P,ew L (cF n r x [u])
 zz: ∀e:Cr,Up e->(∀z∈e,z∈S)->cF n r x e=[]-> ∀t,Top e t->t∈P->t∈C.map (·.1)
 ln:P.length=C.length+L.length
theorem EI.start:EI n r x S hm dn [] [] []:=
 ⟨⟨V4,nofun,nofun,nofun,nofun,nofun,nofun⟩,nofun,nofun,nofun,nofun,nofun,nofun,.slnil,nofun,λ_ _ _ _ _ _ h=>(nomatch h),rfl⟩
theorem zf(s:List Int):Up [s]:=⟨List.pairwise_singleton _ _,by simp⟩
theorem EI.step(W:Wd n r x S hm dn){P T:Cr}(M:S=P++s::T)(hF:S.length<=F)(E:EI n r x S hm dn P C L):EI n r x S hm dn (P++[s]) (sj n r x F (C,L) s).1 (sj n r x F (C,L) s).2:=by
 have D:=W.up.1;have I:=W.up.2;rw[M] at D I;rw[ZU] at D;rw[TX] at I;have U:s∈S:=by rw[M];simp
 have PS: ∀z∈P,z∈S:=λz hz=>by grind
 have hs:s∉P:=λq=>I.2.2 s q s SM rfl
 have J: ∀z∈S,lq z s->z≠s->z∈P:=λz hz X ne=>by
  rw[M] at hz;rcases Tf.mp hz with q|q
  ·exact q
  ·rcases S6.mp q with q|q
   ·lia
   ·exact absurd (r9 X ((UN.mp D.2.1).1 z q)) ne
 have R0:RI n r x hm dn P L s ([s],cF n r x [s]):=⟨zf s,nq _,rfl,by simp,λz hz=>.inl (by nofun),λz hz=>by nofun,λz hz=>W.bh s U z hz,[],ew.nil L,λz=>by simp⟩
 have cl: ∀t,LB S t<=F:=λt=>Tz (U5 _ _) hF
 obtain⟨R,fin⟩:=oC (S:=S) W.dj E.lo hs F _ R0 (W.bs [s] λz hz=>by grind) E.le λt _=>cl t
 have i: ∀z∈(qI L F ([s],cF n r x [s])).2,z∈S:=by
  rw[<-R.bd];exact W.bs _ λz hz=>(R.sb z hz).elim (λq=>q▸U) (PS z)
 generalize hp:qI L F ([s],cF n r x [s])=p at R fin i;have V:sj n r x F (C,L) s=match p.2.getLast? with
  |none=>(C++[(s,p.1)],L)
  |some t=>(C,L++[(t,p)]):=by grind[sj]
 obtain⟨w,N,w2⟩:=R.sp;have o: ∀z∈p.1,z∈P++[s]:=λz hz=>by
  rw[Tf,Th];exact(R.sb z hz).symm
 have tp:Top p.1 s:=⟨R.me,λz hz=>by
  grind[ja]⟩
 have zs': ∀e:Cr,Up e->(∀z∈e,z∈S)->cF n r x e=[]->Top e s->p.2=[]:=λe l j y g=>by
  rcases fin with q|⟨t,Z,Y⟩
  ·exact q
  ·exfalso;have pe:e.Perm (s::e.erase s):=List.perm_cons_erase g.1;have b0:cF n r x (s::e.erase s)=[]:=by grind[Iq]
   have spE:ew L (cF n r x (e.erase s)):=Bz λu v=>by
    have f:=(l.2.mem_erase_iff).mp v;exact E.sp u (J u (j u f.2) (g.2 u f.2) f.1)
   have h:ew L (cF n r x [s]):=spE.ext λz=>by
    have:=BE (n:=n) (r:=r) (x:=x) (u:=s) (z:=z) (K:=e.erase s);grind
   have spP:ew L p.2:=N.add h λz=>by
    grind
   have A:=di R.u2.1 Z;obtain⟨t',t1,t2⟩:=spP.top E.lo.nd E.lo.top (jaI A.1);exact Y (A.uniq t2▸t1)
 cases e:p.2.getLast? with
 |none=>
  have pn:=eB e;rw[V,e];dsimp only;have h:ew L (cF n r x [s]):=N.ext λz=>by nofun
  refine⟨⟨E.lo.nd,E.lo.top,E.lo.up1,E.lo.up2,λq c z hz=>Ub _ (E.lo.sub q c z hz),E.lo.bd,E.lo.hh⟩,E.le,λq c=>?_,λq c=>?_,λq c=>?_,λq c=>?_,λq c=>?_,?_,λu v=>?_,λB l j y t g H=>?_,?_⟩
  ·rcases Tf.mp c with k|k
   ·exact E.c1 q k
   nofun
  ·rcases Tf.mp c with k|k
   ·exact E.c2 q k
   ·rw[Th] at k;subst k;exact R.u1
  ·rcases Tf.mp c with k|k
   ·exact λz hz=>Ub _ (E.c3 q k z hz)
   nofun
  ·rcases Tf.mp c with k|k
   ·exact E.c4 q k
   ·rw[Th] at k;subst k;exact R.bd.trans pn
  ·rcases Tf.mp c with k|k
   ·exact E.c5 q k
   ·rw[Th] at k;subst k;exact R.h1
  ·rw[Tb];exact E.cs.append (jiN _)
  ·rcases Tf.mp v with k|k
   ·exact E.sp u k
   nofun
  ·rw[Tb,Tf];rcases Tf.mp H with k|k
   ·exact .inl (E.zz B l j y t g k)
   nofun
  ·rw[S5,S5,E.ln];simp;lia
 |some t=>
  have A:=di R.u2.1 e;have O:t∉L.map (·.1):=by
   grind
  rw[V,e];dsimp only;have m:((L++[(t,p)]).map (·.1)).Nodup:=by
   rw[Tb,TX];exact⟨E.lo.nd,by simp,λa ha b hb=>by
    grind⟩
  have G:(t,p)∈L++[(t,p)]:=by simp
  have d: ∀ {Q:(List Int×Cr×Cr)->Prop},(∀q∈L,Q q)->Q (t,p)-> ∀q∈L++[(t,p)],Q q:=λa b q c=>by
   grind
  refine⟨⟨m,d E.lo.top A,d E.lo.up1 R.u1,d E.lo.up2 R.u2,d (λq c z hz=>Ub _ (E.lo.sub q c z hz)) o,d E.lo.bd R.bd,d E.lo.hh ⟨hm s,R.h1,R.h2⟩⟩,d E.le i,E.c1,E.c2,λq c z hz=>Ub _ (E.c3 q c z hz),E.c4,E.c5,E.cs.trans (List.sublist_append_left _ _),λu v=>?_,λB l j y t' g H=>?_,?_⟩
  ·rcases Tf.mp v with k|k
   ·exact(E.sp u k).more O
   ·rw[Th] at k;subst k;exact(N.more O).add (ew.mem m G) λz=>by
     grind
  ·rcases Tf.mp H with k|k
   ·exact E.zz B l j y t' g k
   grind
  ·rw[S5,S5,E.ln];rfl
theorem EI.all(W:Wd n r x S hm dn)(a:S.length<=F): ∀(T P:Cr) (st:pJ×Ld),S=P++T->EI n r x S hm dn P st.1 st.2->EI n r x S hm dn S (T.foldl (sj n r x F) st).1 (T.foldl (sj n r x F) st).2
 | [],P,st,h,E=>by nofun
 |s::T,P,st,h,E=>by
  rw[Vi];exact EI.all W a T (P++[s]) _ (by nofun) (E.step W h a)
end
def Qr(C:pJ)(t:List Int):Option Cr:=(C.find? λp=>decide (p.1=t)).map (·.2)
set_option maxHeartbeats 4000000
def ic(n:Nat)(r o:List Nat):Int:=lM n o-Ih n r o-Id n r o+lM n r+1
set_option maxHeartbeats 1000000
theorem xE {α:Type}: ∀(b c:List α),b.Nodup->(∀x∈b,x∈c)->c.length<=b.length->b.Perm c
 | [],c,_,_,h=>by
   nofun
 |a::b,c,d,e,j=>by
  obtain⟨k,g⟩:=T5.mp d;obtain⟨s,t,rfl⟩:=List.append_of_mem (e a (SM ..))
  have f:=xE b (s++t) g (λx i=>by
   grind) (by grind[SX])
  exact(f.cons a).trans Y3.symm
def ge(n:Nat):Nat->List (List Nat)
 |0=>[[]]
 |k+1=>(ge n k).flatMap λs=>((Su n).filter λh=> !Oo (h∈s)).map λh=>s++[h]
theorem uG(n:Nat): ∀k,∀s∈ge n k,s.length=k/\s.Nodup/\ ∀v∈s,v<n
 |0,s,h=>by
  rw[Th.mp h];simp
 |k+1,s,h=>by
  obtain⟨t,g,d⟩:=Vr.mp h;obtain⟨v,hv,rfl⟩:=SY.mp d;obtain⟨f,c⟩:=Tg.mp hv;obtain⟨l,i2,i⟩:=uG n k t g;rw[SV] at f;have c:v∉t:=by simpa using c
  refine⟨by nofun,?_,λw hw=>?_⟩
  ·rw[TX];exact⟨i2,by simp,λa m b j e=>by nofun⟩
  ·grind
theorem KJ(h:s∈ge n n):Ord n s:=by
 obtain⟨c,a,b⟩:=uG n n s h;exact⟨xE s (Su n) a (λv hv=>SV.mpr (b v hv)) (by nofun)⟩
theorem vQ{o:List Nat}(O:Ord n o): ∀k,k<=n->o.take k∈ge n k
 |0,_=>by simp[ge]
 |k+1,h=>by
  have c:k<o.length:=by rw[O.len];lia
  have e:o.getD k 0=o[k]:=by nofun
  rw[jdt,SJ c];refine Vr.mpr ⟨o.take k,vQ O k ⋯,SY.mpr ⟨o.getD k 0,Tg.mpr ⟨SV.mpr (O.get (by grind)),?_⟩,by rw[e];rfl⟩⟩;rw[Ut,decide_eq_false_iff_not];intro b;obtain⟨i,d,a⟩:=Vn b;rw[Y6] at d;rw[jbs] at a;have f:o.getD i 0=o[i]'(by grind):=by grind
  have:=O.inj (show i<n by omega) (show k<n by omega) (by nofun);omega
theorem JF {o:List Nat}{n a b:Nat}(k:o.length=n)(h:a<n)(d:b<n):bN (bN o a b) a b=o:=by
 have j:(bN o a b).length=n:=by grind[bN]
 have g:(bN (bN o a b) a b).length=n:=by grind[bN]
 refine U8 (by nofun) λi f c=>?_
 have e:(bN (bN o a b) a b).getD i 0=o.getD i 0:=by
  rw[fj (by nofun) (by nofun),fj (by nofun) (by nofun),fj (by nofun) (by nofun),fj (by nofun) (by nofun)];lia
 grind
theorem eD: ∀n,n<=5->(ge n n).length<=120:=by decide+kernel
theorem y8: ∀n,n<=5->((ge n n).map zs).Pairwise (λa b=>aS b a=Pa):=by decide+kernel
theorem lf: ∀n,n<=5->((ge n n).map zs).Nodup:=by decide+kernel
abbrev bo(n:Nat):Cr:=(ge n n).map zs
theorem fc{k:List Int}:k∈bo n↔ ∃o,Ord n o/\k=zs o:=by
 constructor
 ·grind[KJ]
 ·rintro⟨o,O,rfl⟩;have m:=vQ O n (SB _);rw[show o.take n=o from Xf (by rw[O.len];lia)] at m;grind
theorem dy{K:Cr}:(∀z∈K,z∈bo n)↔oj n K:=⟨λh k a=>fc.mp (h k a),λh k a=>fc.mpr (h k a)⟩
def l8(n:Nat)(r x:List Nat)(k:List Int):Int×Int:=(ic n r (uz k),ic n x (uz k))
def AH(h:Int×Int):Int×Int:=(h.1-1,h.2-1)
theorem OB(a b:Int×Int)(h:AH a=AH b):a=b:=by
 grind[AH]
section
variable {n a b:Nat}{r o:List Nat}(O:Ord n o)(R:Ord n r)(ha:a<n)(hb:b<n)(ne:a≠b)
include O R ha hb ne
theorem Ac:ic n r o-ic n r (bN o a b)=1-2*qi n r o a b+2*Bk n o a b:=by
 grind[Mx,MA,NI,ic]
end
section
variable {n:Nat}{r x:List Nat}(R:Ord n r)(X:Ord n x)
include R X
theorem Gq(O:Ord n o)(k:a<n)(f:b<n)(g:a≠b)(st:bH r x o a b=S1):ic n r (bN o a b)=ic n r o-1/\ic n x (bN o a b)=ic n x o-1:=by
 obtain⟨l,e,m⟩:=(ES O R X k f g).mp st;have z: ∀p q:Bool,(p=S1-> ¬q=S1)->bi p*bi q=0:=λp q h=>by cases p<;>cases q<;>first|rfl|lia
 have t:Bk n o a b=0:=og λc d=>z _ _ λi j=>by
  grind
 have s:qi n r o a b=0:=og λc d=>z _ _ λi=>e c (SV.mp d) i
 grind[qi,og,Ac]
theorem A5(g:2<=n)(f:n<=5)(i: ∀c,c<n->r.getD c 0≠x.getD c 0):Wd n r x (bo n) (l8 n r x) AH where
 up:=⟨y8 n f,lf n f⟩
 dj:=λa b h=>by
  grind[AH]
 bs:=λK d=>dy.mpr (t9 (dy.mp d))
 bb:=λK d=>Il g (by omega) R X i (dy.mp d)
 bh:=λu j z hz=>by
  obtain⟨o,O,rfl⟩:=fc.mp j;have m:z∈bK n r x [zs o]:=by
   have:=r3.mp hz;grind
  unfold bK at m;rw[T7,Zg,Uv] at m;unfold eI at m;obtain⟨p,e,rfl⟩:=SY.mp m;rw[d9] at e⊢;obtain⟨s,q,k,l⟩:=hH.mp e;grind[Gq,l8,AH,d9]
omit X in
theorem Fa(m:2<=n)(s:n<=5){V:Cr}(i:V.Nodup)(d:oj n V){g:Int}(t: ∀z∈V,ic n r (uz z)=g):V.length<=60:=by
 let c:List Int->List Int:=λk=>zs (bN (uz k) 0 1)
 have y: ∀z∈V,¬ic n r (uz (c z))=g:=λz hz e=>by
  obtain⟨o,O,rfl⟩:=d z hz;grind[Ac,d9]
 have j: ∀z∈V,∀w∈V,c z=c w->z=w:=λz hz w hw e=>by
  obtain⟨o,O,rfl⟩:=d z hz;obtain⟨o',v,rfl⟩:=d w hw;have x:bN o 0 1=bN o' 0 1:=by
   grind[d9]
  have b: ∀ {o:List Nat},Ord n o->bN (bN o 0 1) 0 1=o:=λ{o} O=>JF O.len ⋯ ⋯
  grind
 have f:(V++V.map c).Nodup:=by
  rw[TX];refine⟨i,?_,λa u b p e=>?_⟩
  ·have: ∀ {W:Cr},W.Nodup->(∀z∈W,z∈V)->(W.map c).Nodup:=λ{W}=>by
    induction W<;>grind
   nofun
  grind
 have h: ∀z∈V++V.map c,z∈bo n:=λz hz=>by
  rcases Tf.mp hz with q|q
  ·exact fc.mpr (d z q)
  ·obtain⟨k,l,rfl⟩:=SY.mp q;obtain⟨o,O,rfl⟩:=d k l;exact fc.mpr ⟨bN o 0 1,O.exx ⋯ ⋯,by grind[d9]⟩
 have:=U7 f h;grind[eD]
end
def y6(h:Nat)(q:List Nat)(i:Nat):D:=.tup [.int (2*i+h),.int (2*(q.getD i 0:Nat)+h)]
theorem Q7(q:List Nat):jY (q.map nI)=(Su q.length).map λ(i:Nat)=>D.tup [nI i,nI (q.getD i 0)]:=by
 simp_all[jY]
theorem rT(O:Ord n o)(b:n<=8)(h:Nat):mY [ay o,nI h]=p5 (.lst ((Su n).map (y6 h o))):=by
 apply aZ (kd:=.n) (n:=2) (t:=iB);unfold iB kz;dsimp only;refine ba (dm (ds:=(Su n).map λ(i:Nat)=>D.tup [nI i,nI (o.getD i 0)]) ?_ (by grind) ?_)
 ·rw[<-O.len,<-Q7];rfl
 ·refine cZ (h:=λ(i:Nat)=>D.tup [nI i,nI (o.getD i 0)]) (o:=y6 h o) _ λi a=>⟨_,rfl,?_⟩
  rw[SV] at a;have hv:=O.get a;refine cJ (al ((ax ((ax (x:=.int 2) (y:=nI i) rfl rfl).trans (eP (by simp) ?_)) (y:=nI h) rfl).trans rfl) (al ((ax ((ax (x:=.int 2) (y:=nI (o.getD i 0)) rfl rfl).trans (eP (by simp) ?_)) (y:=nI h) rfl).trans rfl) rfl)) (by simp)
  ·lia
  lia
def Ea(h:Nat)(p:List Nat)(k:Nat)(q:List Nat)(i j:Nat):Bool:=Oo ((2*i+h:Int)<2*j+k)&&Oo ((2*(p.getD i 0:Nat)+h:Int)<2*(q.getD j 0:Nat)+k)
theorem KC(p:Nat->Bool)(l:List Nat):((l.filter p).length:Int)=ls l λx=>bi (p x):=by
 have:=mo p (λ_=>1) l;rw[gB] at this;lia
theorem xK {β:Type}(f:Nat->List β): ∀l:List Nat,((l.flatMap f).length:Int)=ls l λx=>((f x).length:Int)
 | []=>rfl
 |x::l=>by rw[T7,S5,X1,xK f l];rfl
def Fh(n h:Nat)(p:List Nat)(k:Nat)(q:List Nat):Int:=ls (Su n) λi=>ls (Su n) λj=>bi (Ea h p k q i j)
theorem Hz(c:n<=8)(h:Nat)(p:List Nat)(k:Nat)(q:List Nat):uc [.lst ((Su n).map (y6 h p)),.lst ((Su n).map (y6 k q))]=p5 (.int (Fh n h p k q)):=by
 apply aZ (kd:=.s) (n:=2) (t:=vq);unfold vq se;dsimp only;refine ba ?_
 rw[cy (ds:=[.lst ((Su n).flatMap λi=>((Su n).filter (Ea h p k q i)).map λ_=>D.bl S1)]) (al (oB (ds:=(Su n).map (y6 h p)) rfl ?_ ?_) rfl)]
 ·show p5 (D.int _)=_;rw[xK];congr 2;simp[Fh,KC]
 ·refine(dZ (h:=y6 h p) (q:=λ_=>S1) (o:=λ(i:Nat)=>((Su n).filter (Ea h p k q i)).map λ_=>D.bl S1) (Su n) λi e=>⟨_,rfl,rfl,λ_=>?_⟩).trans ?_
  ·refine pj (ds:=(Su n).map (y6 k q)) rfl ?_
   refine(dZ (h:=y6 k q) (q:=Ea h p k q i) (o:=λ(_:Nat)=>[D.bl S1]) (Su n) λj u=>⟨_,rfl,?_,λ_=>om rfl⟩).trans ?_
   ·refine j9 (a:=Oo ((2*i+h:Int)<2*j+k)) (b9 (ax (x:=.int (2*i+h)) (y:=.int (2*j+k)) rfl rfl)) (λz=>?_) (λz=>by grind[Ea]);unfold Ea;rw[z,VR];rfl
   simp[k6]
  ·rw[Us.mpr (λ_ _=>rfl)]
 ·have b: ∀(l:List Nat) (m:Nat) (f:Nat->List D),(∀a,(f a).length<=m)->(l.flatMap f).length<=l.length*m:=by
   intro l m f g
   induction l with
   |nil=>simp
   |cons a l r=>rw[T7,S5,SX,Z4,Z5];grind
  have d:=b (Su n) n (λi=>((Su n).filter (Ea h p k q i)).map λ_=>D.bl S1) (λa=>by grind);rw[UB] at d;have:n*n<=8*8:=V3 c c;grind
theorem wz(h:p=S1↔q=S1):bi p=bi q:=by lia
theorem jN(R:Ord n r)(O:Ord n o)(b:n<=8):ql [ay r,ay o]=p5 (.int (ic n r o)):=by
 apply aZ (kd:=.s) (n:=4) (t:=jX);unfold jX mA;dsimp only;refine(ao (ρ':=[.v (ay r),.v (ay o),.v (.lst ((Su n).map (y6 0 o))),.no]) ((aY ((bf (ds:=[ay o,nI 0]) rfl rfl).trans (rT O b 0))).trans rfl)).trans ?_
 refine(ao (ρ':=[.v (ay r),.v (ay o),.v (.lst ((Su n).map (y6 0 o))),.v (.lst ((Su n).map (y6 1 r)))]) ((aY ((bf (ds:=[ay r,nI 1]) rfl rfl).trans (rT R b 1))).trans rfl)).trans ?_
 have a: ∀(h:Nat) (p:List Nat) (k:Nat) (q:List Nat) (f g:FE) (ρ:aB),f ρ=p5 (.lst ((Su n).map (y6 h p)))->g ρ=p5 (.lst ((Su n).map (y6 k q)))->au (nF 2 uc) (af f (af g aj)) ρ=p5 (.int (Fh n h p k q)):=λh p k q f g ρ d c=>
  (bf (ds:=[.lst ((Su n).map (y6 h p)),.lst ((Su n).map (y6 k q))]) (al d (al c rfl)) rfl).trans (Hz b h p k q)
 refine ba ((ax ((ax ((ax ((ax (a 0 o 0 o _ _ _ rfl rfl) (a 0 o 1 r _ _ _ rfl rfl)).trans rfl) (a 1 r 0 o _ _ _ rfl rfl)).trans rfl) (a 1 r 1 r _ _ _ rfl rfl)).trans rfl) (y:=.int 1) rfl).trans ?_);show p5 (D.int _)=_;congr 2;unfold ic;have d:Fh n 0 o 0 o=lM n o:=by
  simp[Fh,lM,Ea]
 have c:Fh n 1 r 1 r=lM n r:=by
  simp[Fh,lM,Ea]
 have l:Fh n 0 o 1 r=Ih n r o:=by
  unfold Fh Ih Ea;refine bP λi _=>bP λj _=>wz ?_
  lia
 have e:Fh n 1 r 0 o=Id n r o:=by
  unfold Fh Id Ea;refine bP λi _=>bP λj _=>wz ?_
  lia
 lia
theorem E6(R:Ord n r)(O:Ord n o)(a:n<=8):BK [bI r x,ay o]=p5 (.int (ic n r o)):=by
 apply aZ (kd:=.s) (n:=2) (t:=tR);unfold tR so;dsimp only;exact ba ((bf (ds:=[ay r,ay o]) rfl rfl).trans (jN R O a))
section
variable {n:Nat}{r x:List Nat}{S:Nat->Nat}(R:Ord n r)(X:Ord n x)(H:Sg n r x S)(hn:n<=8)
include R X H hn
theorem FJ: ∃L,pH [bI r x]=p5 (.lst L)/\L.length=((Su n).filter (jn S)).length:=by
 obtain⟨C,_,h⟩:=CK R X H hn;exact⟨_,h,by simp⟩
theorem Ku(O:Ord n o):G9 [bI r x,ay o]=p5 (.int (ic n r o-ic n x o-n+((Su n).filter (jn S)).length)):=by
 obtain⟨L,b,a⟩:=FJ R X H hn;rw[<-a];apply aZ (kd:=.s) (n:=5) (t:=yC);unfold yC uk;dsimp only;refine(ao (ρ':=[.v (bI r x),.v (ay o),.v (ay r),.v (ay x),.no]) (qj (nK rfl) rfl)).trans ?_
 refine(ao (ρ':=[.v (bI r x),.v (ay o),.v (ay r),.v (ay x),.v (.int (ic n r o-ic n x o))]) ((aY ((ax ((bf (ds:=[ay r,ay o]) rfl rfl).trans (jN R O hn)) ((bf (ds:=[ay x,ay o]) rfl rfl).trans (jN X O hn))).trans rfl)).trans rfl)).trans ?_
 refine ba ((ax ((ax (x:=.int (ic n r o-ic n x o)) rfl (cS r _ _ rfl)).trans (du _ _)) ((cy (ds:=[.lst L]) (al ((bf (ds:=[bI r x]) rfl rfl).trans b) rfl)).trans rfl)).trans ?_);rw[R.len];rfl
end
theorem Hk(c:p ρ=p5 a)(d:q ρ=p5 b):eR p q ρ=p5 (a&&b):=by
 grind[eR]
theorem Re(i j:Nat):nW (nI i) (nI j)=p5 (.bl (Oo (i<j))):=by simp[oE]
theorem R9(i j:Nat):OZ (nI i) (nI j)=p5 (.bl (Oo (i<=j))):=by simp[Kq]
abbrev x0(r o:List Nat)(m:Int)(n:Nat)(a b:Sl):aB:=[.v (ay r),.v (ay o),.v (.int m),.v (nI n),a,b]
def AL:FS:=(aF (br 2 (ar bG (ah 2) (au yb (af (AR (eR (bJ (ar nW (ah 4) (ah 5))) (bJ (ar nW (ar bt (ah 1) (ah 4)) (ar bt (ah 1) (ah 5)))))) (aj)))))
 (aF (br 2 (ar bG (ah 2) (au yb (af (AR (eR (bJ (ar nW (ah 4) (ah 5))) (bJ (ar nW (ar bt (ah 0) (ah 4)) (ar bt (ah 0) (ah 5)))))) (aj)))))
 (aF (br 2 (ar cw (ah 2) (au yb (af (AR (eR (bJ (ar OZ (ah 4) (ah 5))) (bJ (ar OZ (ar bt (ah 1) (ah 4)) (ar bt (ah 0) (ah 5)))))) (aj)))))
 (br 2 (ar cw (ah 2) (au yb (af (AR (eR (bJ (ar nW (ah 4) (ah 5))) (bJ (ar nW (ar bt (ah 0) (ah 4)) (ar bt (ah 1) (ah 5)))))) (aj))))))))
def JE(r o:List Nat)(i j:Nat):Int:=((bi (Oo (i<j)&&Oo (o.getD i 0<o.getD j 0))+bi (Oo (i<j)&&Oo (r.getD i 0<r.getD j 0))) -bi (Oo (i<=j)&&Oo (o.getD i 0<=r.getD j 0))) -bi (Oo (i<j)&&Oo (r.getD i 0<o.getD j 0))
theorem EW{r o:List Nat}(e:r.length=n)(d:o.length=n)(m:Int)(l:i<n)(t:j<n):AL (x0 r o m n (.v (nI i)) (.v (nI j)))=.nx (x0 r o (m+JE r o i j) n (.v (nI i)) (.v (nI j))):=by
 have c: ∀(G:D->D->Option D) (g:Nat->Nat->Bool),(∀a b,G (nI a) (nI b)=p5 (.bl (g a b)))-> ∀(u v:Nat) (p q:List Nat) (m:Int),ah u (x0 r o m n (.v (nI i)) (.v (nI j)))=p5 (ay p)->ah v (x0 r o m n (.v (nI i)) (.v (nI j)))=p5 (ay q)->p.length=n->q.length=n->
  au yb (af (AR (eR (bJ (ar G (ah 4) (ah 5))) (bJ (ar G (ar bt (ah u) (ah 4)) (ar bt (ah v) (ah 5)))))) (aj)) (x0 r o m n (.v (nI i)) (.v (nI j)))=p5 (.int (bi (g i j&&g (p.getD i 0) (q.getD j 0)))):=by
  intro G g f u v p q m h hv k s;exact(cy (ds:=[.bl (g i j&&g (p.getD i 0) (q.getD j 0))]) (al (uh (Hk (b9 ((ax (x:=nI i) (y:=nI j) rfl rfl).trans (f i j))) (b9 ((ax ((ax (y:=nI i) h rfl).trans (fI (by nofun))) ((ax (y:=nI j) hv rfl).trans (fI (by nofun)))).trans (f _ _))))) rfl)).trans rfl
 unfold AL;refine(ao ((aY ((ax (x:=.int m) rfl (c nW (λa b=>decide (a<b)) Re 1 1 o o m rfl rfl d d)).trans (dW _ _))).trans rfl)).trans ?_
 refine(ao (ρ:=x0 r o _ n (.v (nI i)) (.v (nI j))) ((aY ((ax (x:=.int _) rfl (c nW (λa b=>decide (a<b)) Re 0 0 r r _ rfl rfl e e)).trans (dW _ _))).trans rfl)).trans ?_
 refine(ao (ρ:=x0 r o _ n (.v (nI i)) (.v (nI j))) ((aY ((ax (x:=.int _) rfl (c OZ (λa b=>decide (a<=b)) R9 1 0 o r _ rfl rfl d e)).trans (du _ _))).trans rfl)).trans ?_
 refine Eq.trans (b:=.nx (x0 r o _ n (.v (nI i)) (.v (nI j)))) ((aY (ρ:=x0 r o _ n (.v (nI i)) (.v (nI j))) ((ax (x:=.int _) rfl (c nW (λa b=>decide (a<b)) Re 0 1 r o _ rfl rfl e d)).trans (du _ _))).trans rfl) ?_
 congr 5;grind[JE]
theorem GX{r o:List Nat}(e:r.length=n)(c:o.length=n)(d:i<n): ∀(l:List Nat) (m:Int) (b:Sl),(∀j∈l,j<n)-> ∃a,cu (gN 5) AL (l.map nI) (x0 r o m n (.v (nI i)) b)=.nx (x0 r o (m+ls l (JE r o i)) n (.v (nI i)) a)
 | [],m,b,_=>⟨b,by simp[ls,cu]⟩
 |j::l,m,b,f=>by
  obtain⟨a,h⟩:=GX e c d l (m+JE r o i j) (.v (nI j)) λz hz=>f z (SI _ hz)
  refine⟨a,?_⟩;rw[SD];refine(bw (ρ1:=x0 r o m n (.v (nI i)) (.v (nI j))) rfl (EW e c m d (f j (SM ..)))).trans (h.trans ?_);simp[fw,jep]
theorem A7{r o:List Nat}(g:r.length=n)(f:o.length=n)(k:n<=8): ∀(l:List Nat) (m:Int) (d c:Sl),(∀j∈l,j<n)-> ∃b a,cu (gN 4) (h8 (c8 (cL (af (ah 3) (aj)))) (gN 5) AL) (l.map nI) (x0 r o m n d c)=.nx (x0 r o (m+ls l λi=>ls (Su n) (JE r o i)) n b a)
 | [],m,d,c,_=>⟨d,c,by simp[ls,cu]⟩
 |i::l,m,d,c,e=>by
  obtain⟨p,q⟩:=GX g f (e i (SM ..)) (Su n) m c λz hz=>SV.mp hz
  obtain⟨b,a,h⟩:=A7 g f k l (m+ls (Su n) (JE r o i)) (.v (nI i)) p λz hz=>e z (SI _ hz)
  refine⟨b,a,?_⟩;rw[SD];refine(bw (ρ1:=x0 r o m n (.v (nI i)) c) rfl ((bY (ds:=(Su n).map nI) (bj (cV (al rfl rfl) ⋯))).trans q)).trans (h.trans ?_);simp[fw,jep]
theorem mX{r o:List Nat}(c:r.length=n)(a:o.length=n)(b:n<=8):dM [ay r,ay o]=p5 (.int (ic n r o)):=by
 obtain⟨d,f,h⟩:=A7 c a b (Su n) 1 .no .no λz hz=>SV.mp hz
 apply aZ (kd:=.s) (n:=6) (t:=iV);unfold iV li;dsimp only;refine(ao (ρ':=[.v (ay r),.v (ay o),.v (.int 1),.no,.no,.no]) rfl).trans ?_
 refine(ao (ρ':=x0 r o 1 n .no .no) ((aY (a▸cS o _ _ rfl)).trans rfl)).trans ?_
 refine(ao ((bY (ds:=(Su n).map nI) (bj (cV (al rfl rfl) (by omega)))).trans h)).trans (ba ?_);have:1+(ls (Su n) λi=>ls (Su n) (JE r o i))=ic n r o:=by
  have e:(ls (Su n) λi=>ls (Su n) (JE r o i))=((lM n o+lM n r) -Ih n r o) -Id n r o:=by
   unfold lM Ih Id;rw[<-fF,<-c9,<-c9];refine bP λi _=>?_
   unfold JE;rw[c9,c9,fF]
  grind[ic]
 rw[this];rfl
theorem AM: ∀n,n<=6-> ∀k,k<=n->(ge n k).length<=720:=by decide+kernel
theorem D3(L:List Nat)(c:Nat):rC S1 (nI c) (.tup (L.map nI))=p5 (.bl (!Oo (c∈L))):=by
 unfold rC tU;dsimp only;rw[show bM (nI c::L.map nI)=0 from jS (c::L),if_pos (by simp),G8];rfl
theorem IS(r:n<=6):eX [nI n]=p5 (.lst ((ge n n).map ay)):=by
 apply uK (kd:=.n) (n:=3) (t:=gY);unfold gY kb;dsimp only;rw[ao (ρ':=[.v (nI n),.own ((ge n 0).map ay),.no]) ((dS (jj (ds:=[.tup []]) rfl (by simp))).trans rfl)]
 obtain⟨ρ',lp,c,a⟩:=pX (g:=gN 2) (b:=dh 1 (lQ 2 (gu (cR 1)) (gN 3) (fG) (cL (af (ah 0) (aj))) (gN 4) (bJ (ar (rC S1) (ah 4) (ah 3))) (ar jq (ah 3) (cQ (af (ah 4) (aj)))))) (P:=λi ρ=> ∃c,ρ=[.v (nI n),.own ((ge n i).map ay),c]) ((Su n).map nI) 0 (λd m i ρ k a=>by
  obtain⟨c,rfl⟩:=a;have k:i<n:=by nofun
  refine⟨[.v (nI n),.own ((ge n i).map ay),.v d],[.v (nI n),.own ((ge n (i+1)).map ay),.v d],rfl,(dS (oB (ds:=(ge n i).map ay) (ys:=(ge n (i+1)).map ay) (uY rfl) ?_ (by grind[AM]))).trans rfl,_,rfl⟩;refine(dZ (h:=ay) (q:=λ_=>S1) (o:=λs=>(((Su n).filter λh=> !Oo (h∈s)).map λh=>s++[h]).map ay) (ge n i) λs j=>⟨_,rfl,rfl,λ_=>pj (ds:=(Su n).map nI) (cV (n:=n) rfl ⋯) ?_⟩).trans ?_
  ·refine(dZ (h:=nI) (q:=λh=> !Oo (h∈s)) (o:=λh=>[ay (s++[h])]) (Su n) λh p=>⟨_,rfl,b9 ((ax (x:=nI h) (y:=ay s) rfl rfl).trans (D3 s h)),λ_=>?_⟩).trans ?_
   ·have f:=(uG n i s j).1;have:ar jq (ah 3) (cQ (af (ah 4) (aj))) [.v (nI n),.own ((ge n i).map ay),.v d,.v (ay s),.v (nI h)]=p5 (ay (s++[h])):=by
     refine(ax (x:=ay s) (y:=.tup [nI h]) rfl (cJ rfl (by simp))).trans ?_
     show(if _ then _ else _)=_;rw[if_pos (Tz (show(s.map nI).length+ [nI h].length<=900 by grind) ())];simp
    exact congrArg (Option.map λd=>[d]) this
   ·rw[S4];congr 1;generalize (Su n).filter _=l
    induction l<;>grind
  ·have e:(ge n i).filter (λ_=>S1)=ge n i:=Us.mpr λ_ _=>rfl
   rw[e];show p5 (jfu _ (ge n i))=p5 (jbk ay (jfu _ (ge n i)));rw[Uz]) [.v (nI n),.own ((ge n 0).map ay),.no] ⟨_,rfl⟩
 have f:0+((Su n).map nI).length=n:=by simp
 rw[f] at a;subst a;exact⟨_,(ao ((bY (ds:=(Su n).map nI) (bj (cV (n:=n) rfl (by grind)))).trans lp)).trans rfl⟩
theorem JX{bs ds:List D}(a:f ρ=p5 (.lst ds))(c:fW i ρ=p5 bs)(b:bs.length+ds.length<=900):cz (tV i f) ρ=.nx (fu i (bs++ds) ρ):=by
 refine qc (d:=.non) ?_
 unfold tV;rw[a];dsimp only;rw[c];dsimp only;rw[if_pos (Tz b ())]
def rh(n:Nat)(s:List Nat):List (List Nat):=((Su n).filter λh=> !Oo (h∈s)).map λh=>s++[h]
theorem rQ(f:n<=6)(A B:Sl): ∀(l F:List (List Nat)) (b:Sl),(∀s∈l,s.length<=6)->F.length+(l.flatMap (rh n)).length<=800-> ∃a,cu (gN 4) (cz (tV 3 (bT 1 (cL (af (ah 0) (aj))) (gN 5) (bJ (ar (rC S1) (ah 5) (ah 4))) (ar jq (ah 4) (cQ (af (ah 5) (aj))))))) (l.map ay) [.v (nI n),A,B,.own (F.map ay),b]=.nx [.v (nI n),A,B,.own ((F++l.flatMap (rh n)).map ay),a]
 | [],F,b,_,_=>⟨b,by rw[Zg,Uv];rfl⟩
 |s::l,F,b,c,h=>by
  rw[T7,S5] at h;obtain⟨a,g⟩:=rQ f A B l (F++rh n s) (.v (ay s)) (λt d=>c t (SI _ d)) (by grind);refine⟨a,?_⟩;have e:bT 1 (cL (af (ah 0) (aj))) (gN 5) (bJ (ar (rC S1) (ah 5) (ah 4))) (ar jq (ah 4) (cQ (af (ah 5) (aj)))) [.v (nI n),A,B,.own (F.map ay),.v (ay s)]=p5 (.lst ((rh n s).map ay)):=by
   refine(dm (ds:=(Su n).map nI) (cV (n:=n) rfl ⋯) (by simp;lia) (mh (h:=nI) (o:=λh=>ay (s++[h])) (q:=λh=> !Oo (h∈s)) (Su n) λh i=>⟨[.v (nI n),A,B,.own (F.map ay),.v (ay s),.v (nI h)],rfl,b9 ((ax (x:=nI h) (y:=ay s) rfl rfl).trans (D3 s h)),λ_=>?_⟩)).trans (by simp[rh]);refine(ax (x:=ay s) (y:=.tup [nI h]) rfl (cJ rfl (by simp))).trans ?_
   show(if _ then _ else _)=_;have:=c s SM;rw[if_pos (Tz (show(s.map nI).length+ [nI h].length<=900 by grind) ())];simp
  have st:cz (tV 3 (bT 1 (cL (af (ah 0) (aj))) (gN 5) (bJ (ar (rC S1) (ah 5) (ah 4))) (ar jq (ah 4) (cQ (af (ah 5) (aj)))))) [.v (nI n),A,B,.own (F.map ay),.v (ay s)]=.nx [.v (nI n),A,B,.own ((F++rh n s).map ay),.v (ay s)]:=by
   refine(JX e (bs:=F.map ay) rfl (by grind)).trans ?_
   rw[Tb];rfl
  rw[SD,bw (ρ1:=[.v (nI n),A,B,.own (F.map ay),.v (ay s)]) rfl st,g,Wt,T7]
theorem Jo(j:n<=6):rO [nI n]=p5 (.lst ((ge n n).map ay)):=by
 apply uK (kd:=.s) (n:=5) (t:=mL);unfold mL n7;dsimp only;have l:br 1 (cD (af (cQ (aj)) (aj))) (mK 5 [nI n])=.nx [.v (nI n),.v (.lst ((ge n 0).map ay)),.no,.no,.no]:=(aY (jj (ds:=[.tup []]) rfl (by simp))).trans rfl
 rw[ao l];obtain⟨ρ',lp,h,f,c,a⟩:=pX (g:=gN 2) (b:=aF (dh 3 (cD (aj)))
  (aF (h8 (c8 (nQ (ah 1))) (gN 4) (cz (tV 3 (bT 1 (cL (af (ah 0) (aj))) (gN 5) (bJ (ar (rC S1) (ah 5) (ah 4))) (ar jq (ah 4) (cQ (af (ah 5) (aj))))))))
  ((λρ=>(br 1 (ah 3)) (DJ 3 ρ))))) (P:=λi ρ=> ∃h f c,ρ=[.v (nI n),.v (.lst ((ge n i).map ay)),h,f,c]) ((Su n).map nI) 0 (λd u i ρ k a=>by
  obtain⟨h,f,c,rfl⟩:=a;have k:i<n:=by grind
  have q:dh 3 (cD (aj)) [.v (nI n),.v (.lst ((ge n i).map ay)),.v d,f,c]=.nx [.v (nI n),.v (.lst ((ge n i).map ay)),.v d,.own (([]:List (List Nat)).map ay),c]:=(dS (jj rfl (by simp))).trans rfl;obtain⟨e,o⟩:=rQ j (.v (.lst ((ge n i).map ay))) (.v d) (ge n i) [] c (λs r=>by grind[uG]) (by have:=AM n j (i+1) k;show 0+(ge n (i+1)).length<=800;lia);have m:h8 (c8 (nQ (ah 1))) (gN 4) (cz (tV 3 (bT 1 (cL (af (ah 0) (aj))) (gN 5) (bJ (ar (rC S1) (ah 5) (ah 4))) (ar jq (ah 4) (cQ (af (ah 5) (aj))))))) [.v (nI n),.v (.lst ((ge n i).map ay)),.v d,.own (([]:List (List Nat)).map ay),c]=.nx [.v (nI n),.v (.lst ((ge n i).map ay)),.v d,.own ((ge n (i+1)).map ay),e]:=(bY (ds:=(ge n i).map ay) (bj (gp rfl))).trans o
  exact⟨_,[.v (nI n),.v (.lst ((ge n (i+1)).map ay)),.v d,.v (.lst ((ge n (i+1)).map ay)),e],rfl,(ao q).trans ((ao m).trans rfl),_,_,_,rfl⟩) [.v (nI n),.v (.lst ((ge n 0).map ay)),.no,.no,.no] ⟨_,_,_,rfl⟩
 have p:0+((Su n).map nI).length=n:=by simp
 rw[p] at a;subst a;exact⟨_,(ao ((bY (ds:=(Su n).map nI) (bj (cV (n:=n) rfl (by omega)))).trans lp)).trans (ba rfl)⟩
theorem jU(l:List Nat):ay l=a7 (zs l):=by simp[a7,zs]
theorem F5(L:List (List Nat)):L.map ay=(L.map zs).map a7:=by simp[jU]
abbrev Sd(K:List (List Int)):List (List Int):=aU aS K
abbrev kD(K:List (List Int)):D:=.lst (K.map a7)
structure Cw(N:Nat)(K:List (List Int)):Prop where
 nd:K.Nodup
 len:K.length<=N
 ne: ∀k∈K,k≠[]
theorem qg: ∀K:List (List Int),nv (K.map a7)=p5 K
 | []=>rfl
 |k::K=>by
  rw[SD];simp[nv,a7,iS,qg]
theorem EO {N M:Nat}(h:Cw N A)(h':Cw M B)(d:N+M<=1000)(c:(gK A B).length<64):eY [kD A,kD B]=p5 (kD (Sd (gK A B))):=by
 apply aZ (kd:=.n) (n:=2) (t:=vy) (ρ:=[.v (kD A),.v (kD B)]);unfold vy t5;dsimp only;refine ba ?_
 show((nv (A.map a7)).bind λb=>(nv (B.map a7)).bind λa=>if(b.Nodup/\a.Nodup)/\b.length+a.length<=1000/\(gK b a).length<64/\(∀k∈b,k≠[])/\(∀k∈a,k≠[]) then p5 (D.lst ((aU aS (gK b a)).map a7)) else Sr)=_;rw[qg,qg,SG,SG,if_pos ⟨⟨h.nd,h'.nd⟩,by have:=h.len;have:=h'.len;lia,c,h.ne,h'.ne⟩]
theorem OF: ∀ {o:List Nat},o.length=5->o.sum=o.getD 0 0+o.getD 1 0+o.getD 2 0+o.getD 3 0+o.getD 4 0
 | [a,b,c,d,e],_=>by show a+(b+(c+(d+(e+0))))=a+b+c+d+e;omega
 | [],h=>by rfl
 | [_],h=>by rfl
 | [_,_],h=>by rfl
 | [_,_,_],h=>by simp at h
 | [_,_,_,_],h=>by simp at h
 |_::_::_::_::_::_::_,h=>by simp at h
def QO(k:List Int):Nat:=(uz k).getD 0 0+5*(uz k).getD 1 0+25*(uz k).getD 2 0+125*(uz k).getD 3 0
theorem Ord.get0{o:List Nat}(O:Ord n o)(a:n<=5)(c:Nat):o.getD c 0<5:=by
 by_cases h:c<n
 ·have:=O.get h;lia
 ·rw[WF,Wp (by rw[O.len];nofun)];simp
theorem dg {a b x y:Nat}(c:a<5)(d:b<5)(e:a+5*x=b+5*y):a=b/\x=y:=by omega
theorem KN(c:n<=5){L:List (List Int)}(l:L.Nodup)(h:oj n L):L.length<=625:=by
 have:(L.map QO).length<=625:=gw (by
  rw[Yx,Ug];refine U9 (λ{a b} E q v e=>v ?_) l;obtain⟨o,O,rfl⟩:=h a E;obtain⟨o',d,rfl⟩:=h b q;unfold QO at e;rw[d9,d9] at e;have g:=O.get0 c 0;have f:=O.get0 c 1;have j:=O.get0 c 2;have D:=O.get0 c 3;have b0:=d.get0 c 0;have s:=d.get0 c 1;have m:=d.get0 c 2;have G:=d.get0 c 3;obtain⟨u,e⟩:=dg g b0 (x:=o.getD 1 0+5*(o.getD 2 0+5*o.getD 3 0)) (y:=o'.getD 1 0+5*(o'.getD 2 0+5*o'.getD 3 0)) (by omega);obtain⟨r,e⟩:=dg f s e;obtain⟨w,A⟩:=dg j m e;congr 1;refine Fn (by rw[O.len,d.len]) λi t=>?_
  rw[O.len] at t;have:i=0\/i=1\/i=2\/i=3\/i=4:=by omega
  rcases this with e|e|e|e|e<;>subst e
  ·exact u
  ·exact r
  ·exact w
  ·exact A
  ·have C:n=5:=by lia
   subst C;have p:=OF O.len;have B:=OF d.len;rw[wA O.perm] at p;rw[wA d.perm] at B
   lia) λz hz=>by
  obtain⟨k,F,rfl⟩:=SY.mp hz;obtain⟨o,O,rfl⟩:=h k F;unfold QO;rw[d9];have g:=O.get0 c 0;have f:=O.get0 c 1;have j:=O.get0 c 2;have D:=O.get0 c 3;lia
 nofun
theorem rN {g:FG}{i:Nat}{st:List (List Int)->Sl->aB}{fk:FE}{n:Nat}(m:n<=5)(p: ∀acc s d,g d (st acc s)=p5 (st acc (.v d)))(t: ∀acc d,fk (st acc (.v d))=p5 d)(w: ∀acc s,wa i (st acc s)=p5 acc)(u: ∀acc a s,(st acc s).set i (.ob (.tset a))=st a s):
 ∀(ks acc:List (List Int)) (s:Sl),acc.Nodup->oj n acc->oj n ks-> ∃s',cu g (gm (Ik i fk) (cz (Di nC i fk)) (cz (Di mS i fk))) (ks.map a7) (st acc s)=.nx (st (ks.foldl iX acc) s')
 | [],acc,s,_,_,_=>⟨s,rfl⟩
 |k::ks,acc,s,l,r,o=>by
  have x:=KN m l r;have j:oj n (iX acc k):=λz hz=>by
   have:=(wY acc k z).mp hz
   by_cases e:z=k
   ·rw[e];exact o k SM
   ·rw[if_neg e] at this;exact r z this
  obtain⟨s',h⟩:=rN m p t w u ks (iX acc k) (.v (a7 k)) (vD l k) j λz hz=>o z (SI _ hz)
  have y:(fk (st acc (.v (a7 k)))).bind nX=p5 k:=by rw[t];exact iS k
  have b:Ik i fk (st acc (.v (a7 k)))=p5 (Oo (k∈acc)):=by
   grind[Ik]
  have q: ∀f,cz (Di f i fk) (st acc (.v (a7 k)))=.nx (st (f acc k) (.v (a7 k))):=λf=>by
   grind[cz,Di]
  refine⟨s',?_⟩;rw[SD];refine(bw (ρ1:=st acc (.v (a7 k))) (p _ _ _) (ρ2:=st (iX acc k) (.v (a7 k))) ?_).trans h;unfold iX
  by_cases c:k∈acc
  ·rw[if_pos c,kK (b.trans ⋯)];exact q _
  ·rw[if_neg c,kl (b.trans ⋯)];exact q _
theorem yH(h:0<n){K:List (List Int)}(a:oj n K): ∀k∈K,k≠[]:=λk b e=>by
 obtain⟨o,O,rfl⟩:=a k b;have c:=O.len;have:=congrArg Ua e;grind[zs]
theorem IZ(e:0<n)(f:n<=5)(c:oj n ks)(a:(xO ks).length<64):jp [kD ks]=p5 (kD (fR ks)):=by
 obtain⟨s',h⟩:=rN f (g:=gN 2) (i:=1) (fk:=ah 2) (st:=λacc s=>[.v (.lst (ks.map a7)),.ob (.tset acc),s]) (λ_ _ _=>rfl) (λ_ _=>rfl) (λ_ _=>rfl) (λ_ _ _=>rfl) ks [] .no V4 (λ_ h=>nomatch h) c;apply aZ (kd:=.n) (n:=3) (t:=gk);unfold gk jf;dsimp only;refine(ao (ρ':=[.v (.lst (ks.map a7)),.ob (.tset []),.no]) rfl).trans ((ao ((bY (bj (gp rfl))).trans h)).trans (ba ?_));unfold Lv;show(p5 (ks.foldl iX [])).bind _=_;rw[SG];have d:oj n (xO ks):=λz hz=>c z (My hz)
 rw[if_pos ⟨a,λk b=>yH e d k b⟩];rfl
theorem yM {a:Nat}(h:a<=20000):a<=sizeLine:=by rw[T8];omega
theorem D8{ds ys:List D}(a:gi1 ρ=p5 ds)(c:oo g1 p1 (G6 gi2 g2 p2 f) (ρ++SN m .no) ds=p5 ys)(b:ys.length<=20000):lQ m gi1 g1 p1 gi2 g2 p2 f ρ=p5 (.lst ys):=by
 unfold lQ;rw[a,SG,c,SG,if_pos (yM b)]
theorem GC(r x:List Nat)(a:n<=5): ∀K:List (List Int),(bK n r x K).length<=25*K.length
 | []=>by simp[bK]
 |k::K=>by
  unfold bK;rw[T7,S5,SX];have b:=GC r x a K;unfold bK at b;have c:(eI n r x k).length<=n*n:=by simp[eI,MI]
  have d:n*n<=5*5:=V3 a a;omega
theorem Cd(f:2<=n)(d:n<=5)(R:Ord n r)(X:Ord n x){K:List (List Int)}(b:oj n K)(i:K.length<=700)(a:(cF n r x K).length<64):iG [bI r x,kD K]=p5 (kD (cF n r x K)):=by
 apply aZ (kd:=.n) (n:=2) (t:=oI) (ρ:=[.v (bI r x),.v (kD K)]);unfold oI pf;dsimp only;refine ba ((bf (ds:=[kD (bK n r x K)]) (al ?_ rfl) rfl).trans (IZ ⋯ d (yc b) (by unfold cF fR at a;rwa [(a8 (lt:=aS) _).length_eq] at a)));have e:K=(K.map uz).map zs:=by
  rw[S4];refine(jcj K).symm.trans (T9 λk c=>?_);obtain⟨o,O,rfl⟩:=b k c;simp[d9]
 refine D8 (ds:=K.map a7) (ys:=(bK n r x K).map a7) (gp rfl) ?_ (by grind[GC])
 refine(dZ (h:=a7) (q:=λ_=>S1) (o:=λk=>(eI n r x k).map a7) K λk c=>⟨[.v (bI r x),.v (kD K),.v (a7 k),.no,.no,.no],rfl,rfl,λ_=>?_⟩).trans ?_
 ·obtain⟨o,O,rfl⟩:=b k c;refine pj (ds:=(sp n (bH r x o)).map λp=>yp o p.1 p.2) (gp ((bf (ds:=[bI r x,ay o]) (al rfl (al (by rw[jU];rfl) rfl)) rfl).trans ((Hq O R.len X.len ⋯ ⋯).trans (by rw[Jh O.len])))) ?_
  refine(dZ (h:=λp:Nat×Nat=>yp o p.1 p.2) (q:=λ_=>S1) (o:=λp=>[a7 (zs (bN o p.1 p.2))]) (sp n (bH r x o)) λp g=>⟨[.v (bI r x),.v (kD K),.v (a7 (zs o)),.v (nI p.1),.v (nI p.2),.v (ay (bN o p.1 p.2))],rfl,rfl,λ_=>om (by rw[<-jU (bN o p.1 p.2)];rfl)⟩).trans ?_
  rw[Us.mpr (λ_ _=>rfl),k6];unfold eI;rw[d9,S4];rfl
 ·rw[Us.mpr (λ_ _=>rfl)];simp[bK,Uz]
def pY(C:pJ):lX:=C.map λp=>(iK p.1,kD p.2)
def P0(d:Cr×Cr):D:=.tup [kD d.1,kD d.2]
def qW(L:Ld):lX:=L.map λp=>(iK p.1,P0 p.2)
theorem Gk(h:iK a=iK b):a=b:=by
 induction a generalizing b with
 |nil=>cases b with
  |nil=>rfl
  |cons y b=>cases h
 |cons x a c=>cases b with
  |nil=>cases h
  |cons y b=>
   have h':(Wv x:aP)::iK a=Wv y::iK b:=h;grind
theorem uu {β:Type}(g:β->D)(t:List Int): ∀L:List (List Int×β),bZ (L.map λp=>(iK p.1,g p.2)) (iK t)=(L.find? λp=>decide (p.1=t)).map λp=>g p.2
 | []=>rfl
 |p::L=>by
  have a:=uu g t L;grind[bZ,Gk]
theorem va(L:Ld)(t:List Int):bZ (qW L) (iK t)=(rP L t).map P0:=by
 unfold qW rP;rw[uu,jdv];rfl
theorem M5(C:pJ)(t:List Int):bZ (pY C) (iK t)=(Qr C t).map kD:=by
 unfold pY Qr;rw[uu,jdv];rfl
theorem Nf(h:bZ kvs k=Sr):kf kvs k d=kvs++[(k,d)]:=by
 unfold kf;rw[if_neg];grind[bZ,UZ]
theorem KR {e:Cr}(h:e.getLast?=p5 t):bt (kD e) (.int (-1))=p5 (a7 t):=by
 show qH (e.map a7) (-1)=_;have a:e≠[]:=λq=>by nofun
 have lp:0<e.length:=List.length_pos_iff.mpr a;unfold qH vW;rw[SO,if_neg (by simp),if_pos (by grind),SG,show((-1:Int)+(e.length:Int)).toNat=e.length-1 by omega,Uh,<-WQ,h];rfl
theorem fx(t:List Int):nX (a7 t)=p5 t:=iS t
abbrev po:FE:=ar bt (ah 5) (yw (aH (.int 1)))
def xq:FT:=eR (ir (ah 5)) (Mm 2 po)
def BI:FS:=aF (eF (gT 2 (ij (gN 6) (ij (gN 7) (m9)))) (pu (zE 2 po)))
 (yO 4 5 (af (au (nF 2 eY) (af (ah 4) (af (ah 6) (aj)))) (af (au (nF 2 eY) (af (ah 5) (af (ah 7) (aj)))) (aj))))
abbrev C7(A:D)(C:lX)(L:Ld)(s:Sl)(c e:Cr)(a b:Sl):aB:=[.v A,.ob (.dT C),.ob (.dT (qW L)),s,.v (kD c),.v (kD e),a,b]
theorem HS(a:p ρ=p5 S1)(c:b ρ=.nx ρ2):jA p b (n+1) ρ=jA p b n ρ2:=by
 grind[jA]
theorem jh{n:Nat}(a:p ρ=p5 Pa):jA p b (n+1) ρ=.nx ρ:=by
 grind[jA]
theorem um(A:D)(C:lX)(L:Ld)(s:Sl)(c:Cr){e:Cr}(h:e.getLast?=p5 t)(a b:Sl):po (C7 A C L s c e a b)=p5 (a7 t):=KR h
theorem Ll(A:D)(C:lX)(L:Ld)(s:Sl)(c:Cr){e:Cr}(h:e.getLast?=p5 t)(b d:Sl):xq (C7 A C L s c e b d)=p5 (rP L t).isSome:=by
 unfold xq;refine tI ?_ ?_
 ·show Kh (kD e)=p5 S1;have:e≠[]:=λq=>by grind
  cases e with
  |nil=>lia
  |cons a e=>rfl
 ·unfold Mm;show(p5 (qW L)).bind _=_;rw[SG,um A C L s c h,SG,fx,X0,va,WA]
theorem vZ(A:D)(C:lX)(L:Ld)(s:Sl)(c:Cr)(a b:Sl):xq (C7 A C L s c [] a b)=p5 false:=rfl
theorem J0(A:D)(C:lX)(L:Ld)(s:Sl){c e:Cr}{d:Cr×Cr}(h:e.getLast?=p5 t)(k:rP L t=p5 d)(a b:Sl)(g:eY [kD c,kD d.1]=p5 (kD (nT c d.1)))(f:eY [kD e,kD d.2]=p5 (kD (nT e d.2))):
 BI (C7 A C L s c e a b)=.nx (C7 A C L s (nT c d.1) (nT e d.2) (.v (kD d.1)) (.v (kD d.2))):=by
 unfold BI;have i:eF (gT 2 (ij (gN 6) (ij (gN 7) (m9)))) (pu (zE 2 po)) (C7 A C L s c e a b)=.nx (C7 A C L s c e (.v (kD d.1)) (.v (kD d.2))):=by
  have:zE 2 po (C7 A C L s c e a b)=p5 (P0 d):=by
   unfold zE;show(p5 (qW L)).bind _=_;rw[SG,um A C L s c h,SG,fx,SG,va,k];rfl
  unfold eF pu;rw[this];rfl
 refine(ao i).trans ?_
 unfold yO;rw[show af (au (nF 2 eY) (af (ah 4) (af (ah 6) (aj)))) (af (au (nF 2 eY) (af (ah 5) (af (ah 7) (aj)))) (aj)) (C7 A C L s c e (.v (kD d.1)) (.v (kD d.2)))=p5 [kD (nT c d.1),kD (nT e d.2)] from
  al ((bf (ds:=[kD c,kD d.1]) (al rfl (al rfl rfl)) rfl).trans g) (al ((bf (ds:=[kD e,kD d.2]) (al rfl (al rfl rfl)) rfl).trans f) rfl)]
 rfl
section
variable {n:Nat}{r x:List Nat}(R:Ord n r)(X:Ord n x)(h2:2<=n)(h5:n<=5)(hx: ∀c,c<n->r.getD c 0≠x.getD c 0)
include R h2 h5
theorem oe {V:Cr}(a:V.Nodup)(c:oj n V){h:Int×Int}(b: ∀z∈V,l8 n r x z=h):V.length<=60:=Fa R h2 h5 a c (g:=h.1) λz hz=>congrArg Prod.fst (b z hz)
theorem Go(c:Up A)(b:Up B)(d:oj n A)(a:oj n B){h:Int×Int}(e: ∀z∈A,l8 n r x z=h)(f: ∀z∈B,l8 n r x z=h):eY [kD A,kD B]=p5 (kD (nT A B)):=by
 have j:=oe R h2 h5 c.2 d e;have g:=oe R h2 h5 b.2 a f;have i:oj n (gK A B):=λz hz=>(la.mp hz).elim (λq=>d z q.1) λq=>a z q.1
 have ls:=oe R h2 h5 (oF c.2 b.2) i (h:=h) λz hz=>(la.mp hz).elim (λq=>e z q.1) λq=>f z q.1
 exact EO (N:=60) (M:=60) ⟨c.2,j,yH ⋯ d⟩ ⟨b.2,g,yH ⋯ a⟩ (by simp) ⋯
include X
theorem xv(A:D)(C:lX)(o:LOk n r x (l8 n r x) AH P L)(F:s∉P)(u: ∀z∈P,z∈bo n)(I:s∈bo n)(v: ∀q∈L,∀z∈q.2.2,z∈bo n): ∀(f:Nat) (p:Cr×Cr) (b g c:Sl),RI n r x (l8 n r x) AH P L s p->(∀z∈p.2,z∈bo n)->(∀t,p.2.getLast?=p5 t->LB (bo n) t<=f)->
 ∃m w,jA xq BI (f+1) (C7 A C L b p.1 p.2 g c)=.nx (C7 A C L b (qI L f p).1 (qI L f p).2 m w)
 |0,p,b,g,c,Q,y,M=>by
  have V:p.2=[]:=by
   cases e:p.2.getLast? with
   |none=>nofun
   |some t=>grind[GM]
  refine⟨g,c,jh ?_⟩;grind[vZ]
 |f+1,p,b,g,c,Q,y,M=>by
  unfold qI;cases e:p.2.getLast? with
  |none=>
   refine⟨g,c,jh ?_⟩;grind[eB,vZ]
  |some t=>
   dsimp only;have E:=Ll A C L b p.1 e g c;cases k:rP L t with
   |none=>
    grind[jh]
   |some d=>
    rw[k] at E;have a:=ve k;have j:=di Q.u2.1 e;have W:=OB;have G:=Q.step W o F j.1 a;obtain⟨h,U,B⟩:=o.hh _ a;have O:h=l8 n r x s:=W _ _ ((B t (o.top _ a).1).symm.trans (Q.h2 t j.1));subst O;have l:oj n p.1:=dy.mp λz hz=>(Q.sb z hz).elim (λq=>q▸I) (u z)
    have K:=Go R h2 h5 Q.u1 (o.up1 _ a) l (dy.mp λz hz=>u z (o.sub _ a z hz)) Q.h1 U;have T:=Go R h2 h5 Q.u2 (o.up2 _ a) (dy.mp y) (dy.mp (v _ a)) Q.h2 B;rw[HS E (J0 A C L b e k g c K T)];refine xv A C o F u I v f (nT p.1 d.1,nT p.2 d.2) b _ _ G (λz hz=>?_) λt' N=>?_
    ·rcases en.mp hz with q|q
     ·nofun
     ·exact v _ a z q.1
    ·have i:=di G.u2.1 N;have H:=o.top _ a;have S:t'≠t:=λq=>by
      subst q;rcases en.mp i.1 with q|q
      ·exact q.2 H.1
      grind
     have J:lq t' t:=by
      rcases en.mp i.1 with q|q
      ·exact j.2 _ q.1
      ·exact H.2 _ q.1
     have:=LU (y t j.1) J S;grind
end
theorem pA{fv:FE}{ρ:aB}{kvs:lX}{d:D}{ns:List Int}(b:nY i ρ=p5 kvs)(a:fv ρ=p5 d)(f:fk ρ=p5 ns)(c:kvs.length<=1000)(e:bZ kvs (iK ns)=Sr):jx i fk fv ρ=.nx (ρ.set i (.ob (.dT (kvs++[(iK ns,d)])))):=by
 unfold jx;rw[b];dsimp only;rw[a];dsimp only;rw[f];dsimp only;rw[if_pos c,Nf e]
theorem N1(C:pJ)(s:List Int)(c:Cr):pY (C++[(s,c)])=pY C++[(iK s,kD c)]:=by grind[pY]
theorem L0(L:Ld)(t:List Int)(p:Cr×Cr):qW (L++[(t,p)])=qW L++[(iK t,P0 p)]:=by simp[qW]
def Aw:FS:=(aF (yO 4 5 (af (cD (af (ah 3) (aj))) (af (au (nF 2 iG) (af (ah 0) (af (cD (af (ah 3) (aj))) (aj)))) (aj))))
 (aF (jA xq BI 130)
 (gm (ir (ah 5)) (jx 2 (nO po) (cQ (af (ah 4) (af (ah 5) (aj))))) (jx 1 (nO (ah 3)) (ah 4)))))
theorem QJ:dI=aF (F1 1) (aF (F1 2) (aF (h8 (c8 (nQ (au (nF 1 eX) (af (au dO (af (ar bt (ah 0) (aH (.int 0))) (aj))) (aj))))) (gN 3) Aw) (Ji 1 (Ji 2 (bX (cQ (af (ah 1) (af (ah 2) (aj))))))))):=rfl
section
variable {n:Nat}{r x:List Nat}(R:Ord n r)(X:Ord n x)(h2:2<=n)(h5:n<=5)(hx: ∀c,c<n->r.getD c 0≠x.getD c 0)
include R X h2 h5 hx
abbrev Ij(r x:List Nat)(st:pJ×Ld)(b d e a c:Sl):aB:=[.v (bI r x),.ob (.dT (pY st.1)),.ob (.dT (qW st.2)),b,d,e,a,c]
theorem IC {P T:Cr}{st:pJ×Ld}(L:bo n=P++s::T)(E:EI n r x (bo n) (l8 n r x) AH P st.1 st.2)(A G f g:Sl): ∃u m B j,Aw (Ij r x st (.v (a7 s)) A G f g)=.nx (Ij r x (sj n r x 129 st s) (.v (a7 s)) u m B j):=by
 have W:=A5 R X h2 h5 hx;have I:=W.up.2;rw[L,TX] at I;have y:s∈bo n:=by rw[L];simp
 have PS: ∀z∈P,z∈bo n:=λz hz=>by grind
 have i:s∉P:=λq=>I.2.2 s q s SM rfl
 have Z:(bo n).length<=120:=by grind[eD]
 have J:RI n r x (l8 n r x) AH P st.2 s ([s],cF n r x [s]):=⟨zf s,nq _,rfl,by simp,λz hz=>.inl (by nofun),λz hz=>by nofun,λz hz=>W.bh s y z hz,[],ew.nil _,λz=>by simp⟩
 have b:oj n [s]:=dy.mp λz hz=>by nofun
 have C: ∀z∈cF n r x [s],z∈bo n:=W.bs [s] (dy.mpr b)
 have bl:(cF n r x [s]).length<=60:=oe R h2 h5 (x:=x) (nq _).2 (dy.mp C) (h:=AH (l8 n r x s)) λz hz=>W.bh s y z hz
 have K: ∀t,LB (bo n) t<=129:=λt=>Tz (U5 _ _) ⋯
 have Y:yO 4 5 (af (cD (af (ah 3) (aj))) (af (au (nF 2 iG) (af (ah 0) (af (cD (af (ah 3) (aj))) (aj)))) (aj))) (Ij r x st (.v (a7 s)) A G f g)=.nx (C7 (bI r x) (pY st.1) st.2 (.v (a7 s)) [s] (cF n r x [s]) f g):=by
  unfold yO;rw[show af (cD (af (ah 3) (aj))) (af (au (nF 2 iG) (af (ah 0) (af (cD (af (ah 3) (aj))) (aj)))) (aj)) (Ij r x st (.v (a7 s)) A G f g)=p5 [kD [s],kD (cF n r x [s])] from
   al rfl (al ((bf (ds:=[bI r x,kD [s]]) (al rfl (al rfl rfl)) rfl).trans (Cd h2 h5 R X b (by simp) ⋯)) rfl)]
  rfl
 obtain⟨o,F,V⟩:=xv R X h2 h5 (bI r x) (pY st.1) E.lo i PS y E.le 129 ([s],cF n r x [s]) (.v (a7 s)) f g J C λt _=>K t
 obtain⟨Q,fin⟩:=oC (S:=bo n) OB E.lo i 129 _ J C E.le λt _=>K t
 unfold Aw;rw[ao Y,ao V];have H:sj n r x 129 st s=match (qI st.2 129 ([s],cF n r x [s])).2.getLast? with
  |none=>(st.1++[(s,(qI st.2 129 ([s],cF n r x [s])).1)],st.2)
  |some t=>(st.1,st.2++[(t,qI st.2 129 ([s],cF n r x [s]))]):=rfl
 generalize qI st.2 129 ([s],cF n r x [s])=p at Q fin H⊢;have ln:=E.ln;have lP:P.length<=120:=by
  grind
 cases e:p.2.getLast? with
 |none=>
  have O:=eB e;rw[H,e];dsimp only;have w:bZ (pY st.1) (iK s)=none:=by
   rw[M5];cases k:Qr st.1 s with
   |none=>rfl
   |some c=>
    unfold Qr at k;obtain⟨q,U,_⟩:=S0.mp k;have N:q.1=s:=by grind
    exact absurd (E.cs.subset (N▸T1 (WO U))) i
  have D:(pY st.1).length<=1000:=by grind[pY]
  refine⟨.v (kD p.1),.v (kD p.2),o,F,(kl (p:=ir (ah 5)) (by rw[O];rfl)).trans ((pA (kvs:=pY st.1) (d:=kD p.1) (ns:=s) rfl rfl (fx s) D w).trans ?_)⟩;simp[N1]
 |some t=>
  have tn:t∉st.2.map (·.1):=by
   grind
  rw[H,e];dsimp only;have w:bZ (qW st.2) (iK t)=none:=by
   grind[va,rP]
  have D:(qW st.2).length<=1000:=by grind[qW]
  have M:ir (ah 5) (C7 (bI r x) (pY st.1) st.2 (.v (a7 s)) p.1 p.2 o F)=p5 true:=by
   show Kh (kD p.2)=p5 S1;cases k:p.2 with
   |nil=>grind
   |cons a l=>rfl
  refine⟨.v (kD p.1),.v (kD p.2),o,F,(kK M).trans ((pA (kvs:=qW st.2) (d:=P0 p) (ns:=t) rfl (cJ (ds:=[kD p.1,kD p.2]) rfl (by simp)) (show(po _).bind nX=p5 t by rw[um _ _ _ _ _ e,SG,fx]) D w).trans ?_)⟩;simp[L0]
theorem BM: ∀(T P:Cr) (st:pJ×Ld) (f b d a c:Sl),bo n=P++T->EI n r x (bo n) (l8 n r x) AH P st.1 st.2-> ∃k i h j g,cu (gN 3) Aw (T.map a7) (Ij r x st f b d a c)=.nx (Ij r x (T.foldl (sj n r x 129) st) k i h j g)
 | [],P,st,f,b,d,a,c,_,_=>⟨f,b,d,a,c,rfl⟩
 |s::T,P,st,f,b,d,a,c,l,E=>by
  obtain⟨u,z,A,o,q⟩:=IC R X h2 h5 hx l E b d a c;have W:=A5 R X h2 h5 hx;have p:(bo n).length<=129:=by grind[eD]
  have y:=E.step W l p;obtain⟨C,m,B,w,t,e⟩:=BM T (P++[s]) (sj n r x 129 st s) (.v (a7 s)) u z A o (by nofun) y;refine⟨C,m,B,w,t,?_⟩;rw[SD,Vi];exact(bw (ρ1:=Ij r x st (.v (a7 s)) b d a c) rfl q).trans e
abbrev wD(n:Nat)(r x:List Nat):pJ×Ld:=(bo n).foldl (sj n r x 129) ([],[])
theorem GD:EI n r x (bo n) (l8 n r x) AH (bo n) (wD n r x).1 (wD n r x).2:=by
 have a:(bo n).length<=129:=by grind[eD]
 exact EI.all (A5 R X h2 h5 hx) a (bo n) [] ([],[]) rfl EI.start
theorem O0:dA [bI r x]=p5 (.tup [db (pY (wD n r x).1),db (qW (wD n r x).2)]):=by
 obtain⟨g,c,f,h,b,e⟩:=BM R X h2 h5 hx (bo n) [] ([],[]) .no .no .no .no .no rfl EI.start;apply aZ (kd:=.s) (n:=8) (t:=dI);rw[QJ];refine(ao (ρ':=[.v (bI r x),.ob (.dT []),.no,.no,.no,.no,.no,.no]) rfl).trans ?_
 refine(ao (ρ':=Ij r x ([],[]) .no .no .no .no .no) rfl).trans ?_
 have a:c8 (nQ (au (nF 1 eX) (af (au dO (af (ar bt (ah 0) (aH (.int 0))) (aj))) (aj)))) (Ij r x ([],[]) .no .no .no .no .no)=p5 ((bo n).map a7,Ij r x ([],[]) .no .no .no .no .no):=bj (gp ((bf (ds:=[nI n]) (al (R.len▸cS r _ _ rfl) rfl) rfl).trans ((IS ⋯).trans (by rw[F5]))));refine(ao ((bY a).trans e)).trans ?_
 show bX (cQ (af (ah 1) (af (ah 2) (aj)))) [.v (bI r x),.v (db (pY (wD n r x).1)),.v (db (qW (wD n r x).2)),g,c,f,h,b]=_;refine ba (d:=.tup [db (pY (wD n r x).1),db (qW (wD n r x).2)]) ?_
 rfl
end
theorem EV: ∀(kvs:lX) (l:List (List Int)),kvs.map (·.1)=l.map iK->hW kvs=p5 l:=by
 intro kvs
 induction kvs with
 |nil=>intro l h;cases l with|nil=>rfl|cons _ _=>cases h
 |cons p kvs a=>
  intro l h;cases l with
  |nil=>cases h
  |cons z l=>
   grind[hW,vF]
theorem i6(kvs:lX):mz (db kvs)=p5 kvs:=by
 show p5 ((kvs.map (·.1)).zip (kvs.map (·.2)))=_;rw[yd]
theorem Ms(L:Ld)(s:List Int):(rP L s).isSome=Oo (s∈L.map (·.1)):=by
 grind[rP]
theorem Lf(C:pJ):hW (pY C)=p5 (C.map (·.1)):=EV _ _ (by simp[pY])
def JP(C:pJ)(L:Ld):Cr:=(C.map (·.1)).filter λs=>decide (s∉L.map (·.1))
theorem Gm {C:pJ}(b:C.length<=1000):fU [db (pY C),db (qW L)]=p5 (kD (JP C L)):=by
 apply aZ (kd:=.n) (n:=2) (t:=fO) (ρ:=[.v (db (pY C)),.v (db (qW L))]);unfold fO hY;dsimp only;refine ba (dm (ds:=(C.map (·.1)).map a7) ?_ (by nofun) (mh (h:=a7) (o:=a7) (C.map (·.1)) λs a=>⟨[.v (db (pY C)),.v (db (qW L)),.v (a7 s)],rfl,?_,λ_=>rfl⟩))
 ·unfold PK;show((p5 (db (pY C))).bind mz).bind _=_;simp[i6,Lf]
 ·unfold Om;show(nX (a7 s)).bind (λk=>((p5 (db (qW L))).bind mz).map λkvs=>if S1 then !(bZ kvs (iK k)).isSome else(bZ kvs (iK k)).isSome)=_;grind[fx,i6,va,Ms]
def vU(kvs:n9)(k:List aP):Option (List D):=(kvs.find? λz=>decide (z.1=k)).map (·.2)
theorem vJ(k a:List aP)(d:D): ∀kvs:n9,vU (cM kvs k d) a=if a=k then p5 ((vU kvs k).getD []++[d]) else vU kvs a
 | []=>by
   grind[cM,vU]
 |z::r=>by
  have b:=vJ k a d r;unfold cM
  by_cases e:z.1=k
  ·rw[if_pos e];grind[vU]
  ·rw[if_neg e];grind[vU]
theorem xc(k:List aP)(d:D){N:Nat}: ∀kvs:n9,kvs.length<=N->(∀z∈kvs,z.2.length<=N)->(cM kvs k d).length<=N+1/\ ∀z∈cM kvs k d,z.2.length<=N+1
 | [],_,_=>⟨by simp[cM],λz hz=>by grind[cM]⟩
 |z::r,c,b=>by
  unfold cM
  by_cases e:z.1=k
  ·grind
  ·rw[if_neg e];cases N with
   |zero=>nofun
   |succ N=>
    have q:=xc k d (N:=N+1) r (Tz (W9 _) c) λw hw=>b w (SI _ hw)
    have g:(cM r k d).length<=r.length+1:=by
     have: ∀r:n9,(cM r k d).length<=r.length+1:=λr=>by
      induction r with
      |nil=>simp[cM]
      |cons a r f=>
       grind[cM]
     exact this r
    grind
theorem rK(k:List aP)(d:D): ∀kvs:n9,(cM kvs k d).map (·.1)=if(vU kvs k).isSome=S1 then kvs.map (·.1) else kvs.map (·.1)++[k]
 | []=>rfl
 |z::r=>by
  have a:=rK k d r;unfold vU at a;unfold cM vU
  by_cases e:z.1=k
  ·nofun
  ·rw[if_neg e,UK,v7 e,SD,a];dsimp only;split<;>simp
structure HI(v:List Int->D)(hk:List Int->List Int)(P:Cr)(kvs:n9):Prop where
 fn: ∀h,(vU kvs (iK h)).getD []=(P.filter λs=>decide (hk s=h)).map v
 ln:kvs.length<=P.length
 ll: ∀z∈kvs,z.2.length<=P.length
 is: ∀s∈P,(vU kvs (iK (hk s))).isSome=S1
 ky: ∃l:Cr,kvs.map (·.1)=l.map iK/\l.Nodup/\ ∀z,z∈l↔ ∃s∈P,hk s=z
theorem BY(kvs:n9)(k:List aP):(vU kvs k).isSome=S1↔k∈kvs.map (·.1):=by
 simp[vU]
theorem HI.step(I:HI v hk P kvs)(s:List Int):HI v hk (P++[s]) (cM kvs (iK (hk s)) (v s)):=by
 have l:=xc (iK (hk s)) (v s) kvs I.ln I.ll;refine⟨λh=>?_,by nofun,λz hz=>by grind,λu g=>?_,?_⟩
 ·rw[vJ,Yy,Tb]
  by_cases e:hk s=h
  ·subst e;rw[if_pos rfl,Zh,I.fn,Xc (by simp)];rfl
  ·rw[if_neg λq=>e (Gk q).symm,I.fn,V6 (by simpa using e)];simp
 ·rw[vJ]
  by_cases e:iK (hk u)=iK (hk s)
  ·nofun
  ·rw[if_neg e];rcases Tf.mp g with q|q
   ·exact I.is u q
   nofun
 ·obtain⟨l,a,i,j⟩:=I.ky;have b:iK (hk s)∈kvs.map (·.1)↔hk s∈l:=by
   rw[a];exact⟨λq=>by obtain⟨z,d,f⟩:=SY.mp q;rw[<-Gk f];exact d,λq=>T1 q⟩
  rw[rK]
  by_cases c:(vU kvs (iK (hk s))).isSome=S1
  ·rw[if_pos c];grind[BY]
  ·rw[if_neg c];have k:hk s∉l:=λq=>c ((BY _ _).mpr (b.mpr q))
   refine⟨l++[hk s],by nofun,?_,λz=>?_⟩
   ·grind
   grind
def fh(n m:Nat)(r x:List Nat)(s:List Int):List Int:=[ic n r (uz s),ic n r (uz s) -ic n x (uz s) -n+m]
theorem L3:fh n m r x s=fh n m r x t↔l8 n r x s=l8 n r x t:=by
 grind[fh,l8]
theorem xi(k:List aP): ∀kvs:n9,bZ (kvs.map λz=>(z.1,D.lst z.2)) k=(vU kvs k).map D.lst
 | []=>rfl
 |z::r=>by
  have a:=xi k r;grind[bZ,vU]
section
variable {n:Nat}{r x:List Nat}{S:Nat->Nat}(R:Ord n r)(X:Ord n x)(H:Sg n r x S)(h2:2<=n)(h5:n<=5)
include R X H h2 h5
noncomputable abbrev eM(n:Nat)(S:Nat->Nat):Nat:=((Su n).filter (jn S)).length
theorem K8(O:Ord n o):mB [bI r x,ay o]=p5 (a7 (fh n (eM n S) r x (zs o))):=by
 have e:a7 (fh n (eM n S) r x (zs o))=.tup [.int (ic n r o),.int (ic n r o-ic n x o-n+(eM n S:Nat))]:=by
  unfold fh;rw[d9];rfl
 rw[e];exact aZ (kd:=.s) (n:=2) (t:=rR) (ba (cJ (al ((bf (ds:=[bI r x,ay o]) rfl rfl).trans (E6 R O (by grind))) (al ((bf (ds:=[bI r x,ay o]) rfl rfl).trans (Ku R X H ⋯ O)) rfl)) (by simp)))
end
structure o4(kvs:lX)(ks:List (List Int)):Prop where
 keys: ∃l:List (List Int),kvs.map (·.1)=l.map iK/\l.Nodup/\ ∀z,z∈l↔z∈ks
 val: ∀z,z∈ks->bZ kvs (iK z)=p5 (.int (ks.count z:Nat))
 non: ∀z,z∉ks->bZ kvs (iK z)=Sr
theorem o4.start:o4 [] []:=⟨⟨[],rfl,V4,λz=>Iff.rfl⟩,λz h=>absurd h WM,λz _=>rfl⟩
theorem o4.step{ks:List (List Int)}(I:o4 kvs ks)(k:List Int):o4 (kf kvs (iK k) (.int ((ks.count k:Nat)+1))) (ks++[k]):=by
 have xi: ∀z,bZ (kf kvs (iK k) (.int ((ks.count k:Nat)+1))) (iK z)=if z=k then p5 (.int ((ks.count k:Nat)+1)) else bZ kvs (iK z):=λz=>by
  rw[Hn]
  by_cases e:z=k
  ·nofun
  ·rw[if_neg e,if_neg λw=>e (yI w)]
 refine⟨?_,λz hz=>?_,λz hz=>?_⟩
 ·obtain⟨l,a,b,f⟩:=I.keys
  by_cases c:k∈ks
  ·refine⟨l,?_,b,λz=>?_⟩
   ·rw[rY,I.val k c];exact a
   nofun
  ·refine⟨l++[k],?_,?_,λz=>?_⟩
   ·rw[rY,I.non k c,a,Tb];rfl
   ·grind
   nofun
 ·rw[xi,List.count_append]
  by_cases e:z=k
  ·nofun
  ·have d:List.count z [k]=0:=Yz.mpr (by simpa using e);rw[if_neg e,d,jbn];refine I.val z ?_
   nofun
 ·rw[xi,if_neg λw=>hz (by rw[w];simp)];exact I.non z λw=>hz (Ub _ w)
theorem o4.get{ks:List (List Int)}(I:o4 kvs ks)(k:List Int):(bZ kvs (iK k)).getD (.int 0)=.int (ks.count k:Nat):=by
 by_cases c:k∈ks
 ·rw[I.val k c];rfl
 ·rw[I.non k c,Yz.mpr c];rfl
theorem o4.len {kvs:lX}{ks:List (List Int)}(I:o4 kvs ks):kvs.length<=ks.length:=by
 obtain⟨l,b,a,c⟩:=I.keys;have e:=congrArg Ua b;rw[SO,SO] at e;rw[e];exact U7 a λz hz=>(c z).mp hz
section
variable {n:Nat}{r x:List Nat}{S:Nat->Nat}(R:Ord n r)(X:Ord n x)(H:Sg n r x S)(h2:2<=n)(h5:n<=5)
include R X H h2 h5
abbrev CZ(r x:List Nat)(A B:D)(kvs:lX)(a b:Sl):aB:=[.v (bI r x),.v A,.v B,.ob (.dT kvs),a,b]
def Lx:FS:=aF (br 5 (au (nF 2 mB) (af (ah 0) (af (ah 4) (aj))))) (jx 3 (nO (ah 5)) (ar bG (xF 3 (nO (ah 5)) (aH (.int 0))) (aH (.int 1))))
theorem JH(A B:D){ks:List (List Int)}(I:o4 kvs ks)(c:ks.length<=1000)(b:s∈bo n)(f:Sl):
 Lx (CZ r x A B kvs (.v (a7 s)) f)=.nx (CZ r x A B (kf kvs (iK (fh n (eM n S) r x s)) (.int ((ks.count (fh n (eM n S) r x s):Nat)+1))) (.v (a7 s)) (.v (a7 (fh n (eM n S) r x s)))):=by
 obtain⟨o,O,rfl⟩:=fc.mp b;have e:=K8 R X H h2 h5 O;rw[jU] at e;refine(ao (ρ':=CZ r x A B kvs (.v (a7 (zs o))) (.v (a7 (fh n (eM n S) r x (zs o))))) (aY ((bf (ds:=[bI r x,a7 (zs o)]) rfl rfl).trans e))).trans ?_
 have a:nO (ah 5) (CZ r x A B kvs (.v (a7 (zs o))) (.v (a7 (fh n (eM n S) r x (zs o)))))=p5 (fh n (eM n S) r x (zs o)):=fx _;have g:xF 3 (nO (ah 5)) (aH (.int 0)) (CZ r x A B kvs (.v (a7 (zs o))) (.v (a7 (fh n (eM n S) r x (zs o)))))=p5 (.int (ks.count (fh n (eM n S) r x (zs o)):Nat)):=by
  unfold xF;rw[a];show p5 ((bZ kvs (iK _)).getD (.int 0))=_;rw[I.get]
 have d:ar bG (xF 3 (nO (ah 5)) (aH (.int 0))) (aH (.int 1)) (CZ r x A B kvs (.v (a7 (zs o))) (.v (a7 (fh n (eM n S) r x (zs o)))))=p5 (.int ((ks.count (fh n (eM n S) r x (zs o)):Nat)+1)):=(ax g rfl).trans (dW _ _);unfold jx;rw[a,d];show(if kvs.length<=1000 then _ else _)=_;rw[if_pos (Tz I.len c)];rfl
theorem Bs(A B:D): ∀(T:Cr) (kvs:lX) (ks:List (List Int)) (f d:Sl),(∀z∈T,z∈bo n)->o4 kvs ks->ks.length+T.length<=1000->
 ∃a c b,cu (gN 4) Lx (T.map a7) (CZ r x A B kvs f d)=.nx (CZ r x A B a c b)/\o4 a (ks++T.map (fh n (eM n S) r x))
 | [],kvs,ks,f,d,_,I,_=>⟨kvs,f,d,rfl,by nofun⟩
 |s::T,kvs,ks,f,d,g,I,h=>by
  have st:=JH R X H h2 h5 A B I (by grind) (g s (by simp)) d;obtain⟨a,c,b,e,J⟩:=Bs A B T _ _ (.v (a7 s)) (.v (a7 (fh n (eM n S) r x s))) (λz hz=>g z (by simp[hz])) (I.step (fh n (eM n S) r x s)) (by rw[S5];simp at h⊢;grind);refine⟨a,c,b,?_,by nofun⟩;rw[SD];exact(bw (ρ1:=CZ r x A B kvs (.v (a7 s)) d) rfl st).trans e
end
section
variable {n:Nat}{r x:List Nat}{S:Nat->Nat}(R:Ord n r)(X:Ord n x)(H:Sg n r x S)(hn:n<=8)
include R X H hn
abbrev BA(r x:List Nat)(l:List Nat)(m:Int)(s:Sl):aB:=[.v (bI r x),.own (l.map nI),.v (.int m),s]
def BZ:FS:=(aF (cz (aV 1 1 F4 (c8 (af (ah 3) (aj)))))
 (br 3 (ar sV (ar bt (ah 0) (aH (.int 1))) (ar bt (ar bt (ah 0) (aH (.int 0))) (ah 3)))))
omit X hn in
theorem xD {l:List Nat}(a:l.Nodup)(b:c∈l)(lt:c<n)(m:Int):BZ (BA r x l m (.v (nI c)))=.nx (BA r x (l.filter λz=>decide (z≠c)) m (.v (nI (S c)))):=by
 unfold BZ;refine(ao (ρ':=BA r x (l.filter λz=>decide (z≠c)) m (.v (nI c))) (qc (cn (i:=1) (n:=1) (M:=F4) (b0:=l.map nI) (bs:=l.map nI) (ds:=[nI c]) rfl (bj rfl) rfl rfl (Q6 b a)))).trans ?_
 exact(aY ((ax (x:=ay x) rfl ((ax (x:=ay r) (y:=nI c) rfl rfl).trans (fI (by rw[R.len];exact lt)))).trans (H.ev c lt))).trans rfl
omit R X H hn in
theorem LI(l:List Nat)(m:Int)(c:Nat):bJ (ar (rC Pa) (ah 3) (cR 1)) (BA r x l m (.v (nI c)))=p5 (Oo (c∈l)):=
 b9 ((ax (x:=nI c) (y:=.lst (l.map nI)) rfl rfl).trans (RV l c))
omit X hn in
theorem pW {l:List Nat}(b:l.Nodup)(lt: ∀z∈l,z<n)(d: ∀z∈l,S z∈l)(m:Int)(c:Nat): ∀(f:Nat) (W:List Nat) (t:Nat),n<f+W.length->Wlk n S c W t->(∀z∈W,z∈l)->
 ∃g k,jA (bJ (ar (rC Pa) (ah 3) (cR 1))) BZ f (BA r x (l.filter λz=>decide (z∉W)) m (.v (nI (S t))))=.nx (BA r x (l.filter λz=>decide (z∉g)) m k)/\Cyc n S c g
 |0,W,t,h,w,_=>absurd (gw w.nd w.lt) (by nofun)
 |f+1,W,t,h,w,a=>by
  unfold jA;rw[LI]
  by_cases e:S t=c
  ·rw[v7 (by rw[Tg,vu,e];exact λq=>q.2 w.hs)];exact⟨W,_,rfl,w.done e⟩
  ·have p:=w.notin H e;have o:S t∈l:=d t (a t w.ht);have i:S t∈l.filter λz=>decide (z∉W):=by nofun
   rw[v3 i];dsimp only;rw[xD R H (US _ b) i (lt _ o)];dsimp only;have j:(l.filter λz=>decide (z∉W)).filter (λz=>decide (z≠S t))=l.filter λz=>decide (z∉W++[S t]):=by
    rw[Yw];refine Xq λz _=>?_
    simp[And.comm]
   rw[j];exact pW b lt d m c f (W++[S t]) (S t) (by grind) (w.next H e) λz hz=>(Tf.mp hz).elim (a z) λq=>by nofun
def E9:FS:=(aF (br 2 (ar bG (ah 2) (aH (.int 1))))
 (aF (br 3 (ar bt (cR 1) (aH (.int 0))))
 (jA (bJ (ar (rC Pa) (ah 3) (cR 1))) BZ 16)))
omit R X H hn in
theorem LM(l:List Nat)(m:Int)(s:Sl):bJ (ar uD (cR 1) (cD (aj))) (BA r x l m s)=p5 (!l.isEmpty):=by
 refine b9 ((ax (x:=.lst (l.map nI)) (y:=.lst []) rfl (jj rfl (by simp))).trans ?_);rw[mC (xG l)];cases l with
 |nil=>rfl
 |cons y l=>rfl
omit X in
theorem pK: ∀(f:Nat) (l:List Nat) (m:Int) (s:Sl),l.length<f->l.Pairwise (·< ·)->(∀z∈l,z<n)->(∀z∈l,S z∈l)->
 ∃s',jA (bJ (ar uD (cR 1) (cD (aj)))) E9 f (BA r x l m s)=.nx (BA r x [] (m+(l.filter (jn S)).length) s')
 |0,l,m,s,h,_,_,_=>absurd h (WY _)
 |f+1,[],m,s,h,_,_,_=>by
  unfold jA;rw[LM];exact⟨s,by simp⟩
 |f+1,c::l,m,s,h,a,lt,e=>by
  unfold jA;rw[LM];have d:(c::l).Nodup:=a.imp λh=>S7 h
  have i:c<n:=lt c (SM ..);obtain⟨W,g,o,C⟩:=pW R H d lt e (m+1) c 15 [c] c (by simp;lia) (Wlk.start i) λz hz=>by nofun
  obtain⟨q,j,p⟩:=EF H a lt e C;have b:E9 (BA r x (c::l) m s)=.nx (BA r x ((c::l).filter λz=>decide (z∉W)) (m+1) g):=by
   unfold E9;refine(ao (ρ':=BA r x (c::l) (m+1) s) ((aY ((ax (x:=.int m) (y:=.int 1) rfl rfl).trans (dW _ _))).trans rfl)).trans ?_
   refine(ao (ρ':=BA r x (c::l) (m+1) (.v (nI c))) ((aY ((ax (x:=.lst ((c::l).map nI)) (y:=nI 0) rfl rfl).trans (tf (by simp)))).trans rfl)).trans ?_
   unfold jA;rw[LI,v3 (SM ..)];dsimp only;rw[xD R H d (SM ..) i];nofun
  obtain⟨s',k⟩:=pK f ((c::l).filter λz=>decide (z∉W)) (m+1) g (by grind) (US _ a) (λz hz=>lt z (Tg.mp hz).1) j;grind
omit X in
theorem C2:ku [bI r x]=p5 (.int ((Su n).filter (jn S)).length):=by
 obtain⟨s',h⟩:=pK R H hn 16 (Su n) 0 .no (by simp;lia) Uk (λz hz=>SV.mp hz) (λz hz=>SV.mpr (H.lt z (SV.mp hz)));apply aZ (kd:=.s) (n:=4) (t:=g7);unfold g7 ju;dsimp only;refine(ao (ρ':=[.v (bI r x),.own ((Su n).map nI),.no,.no]) ((dS (zZ (n:=n) ⋯ _ _ (R.len▸cS r _ _ rfl))).trans rfl)).trans ?_
 refine(ao (ρ':=BA r x (Su n) 0 .no) rfl).trans ?_
 refine(ao h).trans (ba ?_);rw[Yk];rfl
end
abbrev pl(S:Cr)(z:List Int):Nat:=S.idxOf z
theorem my {S:Cr}(a:S.Nodup)(hw:w∈S)(i:Nat):pl S w=i↔S[i]? =p5 w:=by
 constructor
 ·rintro rfl;grind
 ·intro h;grind
def nx(S K:Cr):Nat:=K.foldl (λm z=>m^^^2^pl S z) 0
theorem LG(S:Cr)(i:Nat): ∀(K:Cr) (m:Nat),(K.foldl (λm z=>m^^^2^pl S z) m).testBit i=(m.testBit i !=Oo ((K.countP λz=>decide (pl S z=i)) % 2=1))
 | [],m=>by simp
 |z::K,m=>by
  rw[Vi,LG S i K,W2,List.countP_cons,Nat.testBit_two_pow]
  by_cases e:pl S z=i
  ·rw[v3 e,if_pos rfl];rcases Nat.mod_two_eq_zero_or_one (K.countP λz=>decide (pl S z=i)) with h|h
   ·rw[h,show((K.countP λz=>decide (pl S z=i))+1) % 2=1 by grind];simp
   lia
  nofun
section
variable {S A B K:Cr}(U:Up S)
include U
theorem iF(a: ∀z∈K,z∈S)(i:Nat):(nx S K).testBit i=match S[i]? with
 |some z=>decide (K.count z % 2=1)
 |none=>false:=by
 unfold nx;rw[LG,Nat.zero_testBit,Bool.false_bne];cases e:S[i]? with
 |none=>
  rw[List.countP_eq_zero.mpr λz hz=>by rw[vu,my U.2 (a z hz),e];simp];rfl
 |some w=>
  have:(K.countP λz=>decide (pl S z=i))=K.count w:=jbv λz hz=>by
   rw[vu,my U.2 (a z hz),e,beq_iff_eq,Option.some.injEq];exact eq_comm
  rw[this]
theorem NS(b: ∀z∈A,z∈S)(a: ∀z∈B,z∈S)(h: ∀z∈S,A.count z % 2=B.count z % 2):nx S A=nx S B:=WG λi=>by
 rw[iF U b,iF U a];grind[Tj]
theorem P2(d: ∀z∈A,z∈S)(c: ∀z∈B,z∈S)(a:A.Nodup)(b:B.Nodup):nx S (nT A B)=nx S A^^^nx S B:=WG λi=>by
 have g: ∀z∈nT A B,z∈S:=λz hz=>(en.mp hz).elim (λh=>d z h.1) λh=>c z h.1
 rw[W2,iF U d,iF U c,iF U g];cases e:S[i]? with
 |none=>rfl
 |some z=>
  dsimp only;rw[(z6 a b).2.count,a.count,b.count];have:= @en A B z
  by_cases j:z∈A<;>by_cases f:z∈B<;>simp[j,f,this]
theorem Fb(a: ∀z∈K,z∈S)(k:K.Nodup)(c:Top K t):nx S K≠0/\(nx S K).log2=pl S t:=by
 have e:=(my U.2 (a t c.1) _).mp rfl;have b:(nx S K).testBit (pl S t)=true:=by
  rw[iF U a,e];dsimp only;rw[k.count,if_pos c.1];rfl
 have f:nx S K≠0:=λq=>by nofun
 refine⟨f,(ZF f).mpr ⟨Nat.ge_two_pow_of_testBit b,WR _ λi n=>?_⟩⟩;rw[iF U a];cases q:S[i]? with
 |none=>rfl
 |some w=>
  dsimp only;have:w∉K:=λhw=>by
   have m:=c.2 w hw;obtain⟨h,l⟩:=SK.mp e;obtain⟨g,j⟩:=SK.mp q;have d:=Ui.mp U.1 _ _ h g ⋯;rw[l,j] at d;have:=r9 m d;subst this;have:=(my U.2 (a w hw) i).mpr q;grind
  rw[Yz.mpr this];rfl
end
def FQ(Q:List (Nat×Nat))(i:Nat):Option Nat:=(Q.find? λp=>decide (p.1=i)).map (·.2)
def Ca(Q:List (Nat×Nat)):Nat->Nat->Nat
 |0,m=>m
 |f+1,m=>if m=0 then m else match FQ Q m.log2 with
  |none=>m
  |some d=>Ca Q f (m^^^d)
def Ie(F:Nat)(Q:List (Nat×Nat))(m:Nat):List (Nat×Nat):=if Ca Q F m=0 then Q else Q++[((Ca Q F m).log2,Ca Q F m)]
def lZ(S:Cr)(L:Ld):List (Nat×Nat):=L.map λp=>(pl S p.1,nx S p.2.2)
theorem Gg {S:Cr}(a:S.Nodup)(b:t∈S): ∀ {L:Ld},(∀p∈L,p.1∈S)->FQ (lZ S L) (pl S t)=(rP L t).map λd=>nx S d.2
 | [],_=>rfl
 |p::L,h=>by
  have f:=Gg a b (L:=L) λq c=>h q (by simp[c])
  unfold FQ rP lZ at f⊢;rw[SD,UK,UK];have:pl S p.1=pl S t↔p.1=t:=⟨λe=>by
   have:=(my a (h p (by simp)) _).mp e;rw[(my a b _).mp rfl] at this
   nofun,λe=>by rw[e]⟩
  grind
section
variable {S:Cr}
def qP(b:List Int->Int×Int)(a:Int×Int->Int×Int)(h:Int×Int)(L:Ld):Ld:=L.filter λp=>decide (b p.1=a h)
theorem PQ(e:hm t=dn h):rP (qP hm dn h L) t=rP L t:=by
 unfold rP qP;rw[List.find?_filter];congr 2;funext p;nofun
theorem CC(o:LOk n r x hm dn P L){p:List Int×Cr×Cr}(a:p∈L): ∀z∈p.2.2,hm z=hm p.1:=λz hz=>by
 obtain⟨g,_,b⟩:=o.hh p a;rw[b z hz,b p.1 (o.top p a).1]
theorem Em(U:Up S)(o:LOk n r x b c P L)(g: ∀q∈L,∀z∈q.2.2,z∈S): ∀(f:Nat) (p:Cr×Cr),Up p.2->(∀z∈p.2,z∈S)->(∀z∈p.2,b z=c h)->
 Ca (lZ S (qP b c h L)) f (nx S p.2)=nx S (qI L f p).2
 |0,p,_,_,_=>rfl
 |f+1,p,u,a,j=>by
  unfold Ca qI;cases e:p.2.getLast? with
  |none=>
   have:=eB e;rw[this];rfl
  |some t=>
   have T:=di u.1 e;obtain⟨y,w⟩:=Fb U a u.2 T;have ls: ∀q∈qP b c h L,q.1∈S:=λq m=>g q (Tg.mp m).1 _ (o.top q (Tg.mp m).1).1
   rw[if_neg y,w,Gg U.2 (a t T.1) ls,PQ (j t T.1)];dsimp only;cases k:rP L t with
   |none=>rfl
   |some d=>
    have i:=ve k;have v:=o.up2 _ i;have s:=g _ i;have l: ∀z∈d.2,b z=c h:=λz hz=>(CC o i z hz).trans (j t T.1)
    show Ca _ f (nx S p.2^^^nx S d.2)=_;rw[<-P2 U a s u.2 v.2];exact Em U o g f (nT p.1 d.1,nT p.2 d.2) (z6 u.2 v.2) (λz hz=>(en.mp hz).elim (λq=>a z q.1) λq=>s z q.1) λz hz=>(en.mp hz).elim (λq=>j z q.1) λq=>l z q.1
end
theorem wo {α:Type}(p q:α->Bool): ∀l:List α,(l.filter λz=> !p z&&q z).length+(l.filter λz=>p z&&q z).length=(l.filter q).length
 | []=>rfl
 |a::l=>by
  have b:=wo p q l;grind
section
variable {n:Nat}{r x:List Nat}{S:Cr}
def Jv(a:List Int->Int×Int)(h:Int×Int)(C:pJ):pJ:=C.filter λp=>decide (a p.1=h)
theorem Md(W:Wd n r x S hm dn){P T:Cr}{s:List Int}{C:pJ}{L:Ld}{F:Nat}(hS:S=P++s::T)(hF:S.length<=F)(E:EI n r x S hm dn P C L)(h:Int×Int):
 lZ S (qP hm dn h (sj n r x F (C,L) s).2)=(if hm s=h then Ie F (lZ S (qP hm dn h L)) (nx S (cF n r x [s])) else lZ S (qP hm dn h L))/\
 (Jv hm h (sj n r x F (C,L) s).1).length+(qP hm dn h (sj n r x F (C,L) s).2).length=(Jv hm h C).length+(qP hm dn h L).length+if hm s=h then 1 else 0:=by
 have nd:=W.up.2;rw[hS] at nd;rw[TX] at nd;have sS:s∈S:=by rw[hS];simp
 have PS: ∀z∈P,z∈S:=λz hz=>by rw[hS];simp[hz]
 have hs:s∉P:=λq=>nd.2.2 s q s SM rfl
 have R0:RI n r x hm dn P L s ([s],cF n r x [s]):=⟨zf s,nq _,rfl,by simp,λz hz=>.inl (by simpa using hz),λz hz=>by rw[Th.mp hz],λz hz=>W.bh s sS z hz,[],ew.nil L,λz=>by simp⟩
 have bS:=W.bs [s] λz hz=>by rw[Th.mp hz];exact sS
 obtain⟨R,fin⟩:=oC (S:=S) W.dj E.lo hs F _ R0 bS E.le λt _=>Tz (U5 _ _) hF
 have R2S: ∀z∈(qI L F ([s],cF n r x [s])).2,z∈S:=by
  rw[<-R.bd];exact W.bs _ λz hz=>(R.sb z hz).elim (λq=>q▸sS) (PS z)
 have rr:hm s=h->Ca (lZ S (qP hm dn h L)) F (nx S (cF n r x [s]))=nx S (qI L F ([s],cF n r x [s])).2:=λe=>
  Em W.up E.lo E.le F ([s],cF n r x [s]) (nq _) bS λz hz=>by rw[W.bh s sS z hz,e]
 generalize hp:qI L F ([s],cF n r x [s])=p at R fin R2S rr;have eS:sj n r x F (C,L) s=match p.2.getLast? with
  |none=>(C++[(s,p.1)],L)
  |some t=>(C,L++[(t,p)]):=by unfold sj;dsimp only;rw[hp]<;>cases p.2.getLast?<;>rfl
 cases e:p.2.getLast? with
 |none=>
  have e0:=eB e;rw[e] at eS;dsimp only at eS;rw[eS];dsimp only;refine⟨?_,?_⟩
  ·split
   ·rename_i q
    unfold Ie;rw[rr q,e0];rfl
   ·rfl
  ·unfold Jv;rw[Yy,S5,VV]
   by_cases q:hm s=h
   ·rw[if_pos (by simpa using q),if_pos q];simp;lia
   nofun
 |some t=>
  have Tp:=di R.u2.1 e;have ht:hm t=dn (hm s):=R.h2 t Tp.1;rw[e] at eS;dsimp only at eS;rw[eS];dsimp only;have iff:hm t=dn h↔hm s=h:=⟨λq=>W.dj _ _ (ht.symm.trans q),λq=>by rw[ht,q]⟩
  unfold qP;rw[Yy,VV,List.filter_nil]
  by_cases q:hm s=h
  ·obtain⟨z0,z1⟩:=Fb W.up R2S R.u2.2 Tp;rw[if_pos q,if_pos q,if_pos (by simpa using iff.mpr q)];refine⟨?_,by rw[S5];rfl⟩;unfold Ie;have:=rr q;unfold qP at this;rw[this,if_neg z0,z1];simp[lZ]
  nofun
def KU(n:Nat)(r x:List Nat)(S:Cr)(F:Nat)(Q:List (Nat×Nat))(K:Cr):List (Nat×Nat):=K.foldl (λQ s=>Ie F Q (nx S (cF n r x [s]))) Q
theorem uN(W:Wd n r x S hm dn)(a:S.length<=F)(h:Int×Int): ∀(T P:Cr) (st:pJ×Ld),S=P++T->EI n r x S hm dn P st.1 st.2->
 lZ S (qP hm dn h (T.foldl (sj n r x F) st).2)=KU n r x S F (lZ S (qP hm dn h st.2)) (T.filter λz=>decide (hm z=h))/\
 (Jv hm h (T.foldl (sj n r x F) st).1).length+(qP hm dn h (T.foldl (sj n r x F) st).2).length=(Jv hm h st.1).length+(qP hm dn h st.2).length+(T.filter λz=>decide (hm z=h)).length
 | [],P,st,_,E=>⟨rfl,rfl⟩
 |s::T,P,st,b,E=>by
  obtain⟨f,e⟩:=Md W b a E h;obtain⟨d,c⟩:=uN W a h T (P++[s]) _ (by nofun) (E.step W b a);rw[Vi,d,c,e,f,VV]
  by_cases q:hm s=h
  ·rw[if_pos q,if_pos q,if_pos (by simpa using q)];exact⟨rfl,by rw[SX];grind⟩
  nofun
def Pr(a:List Int->Int×Int)(h:Int×Int)(C:pJ)(L:Ld):Cr:=(C.map (·.1)).filter λz=> !Oo (z∈L.map (·.1))&&Oo (a z=h)
theorem Gb(W:Wd n r x S hm dn)(E:EI n r x S hm dn S C L)(k:dn g=h):(Pr hm h C L).length+(qP hm dn g L).length=(Jv hm h C).length:=by
 have b:(C.map (·.1)).Nodup:=W.up.2.sublist E.cs;have j: ∀t∈L.map (·.1),t∈C.map (·.1):=λt e=>by
  obtain⟨p,a,rfl⟩:=SY.mp e;have c:=E.lo.top p a;exact E.zz p.2.2 (E.lo.up2 p a) (E.le p a) (by rw[<-E.lo.bd p a];exact W.bb _ (E.lo.sub p a)) p.1 c (E.le p a _ c.1)
 have i:(Jv hm h C).length=((C.map (·.1)).filter λz=>decide (hm z=h)).length:=by
  unfold Jv;rw[X5,SO];rfl
 have d:(qP hm dn g L).length=((L.map (·.1)).filter λz=>decide (hm z=h)).length:=by
  unfold qP;rw[X5,SO,k];rfl
 have f:((L.map (·.1)).filter λz=>decide (hm z=h)).Perm ((C.map (·.1)).filter λz=>decide (z∈L.map (·.1))&&Oo (hm z=h)):=
  (TC (E.lo.nd.filter _) (b.filter _)).mpr λz=>by
    grind
 rw[i,d,f.length_eq];simp[Pr,wo]
theorem xh(W:Wd n r x S hm dn)(a:S.length<=F){h g:Int×Int}(f:dn g=h){A:pJ×Ld}(j:A=S.foldl (sj n r x F) ([],[])):
 (Pr hm h A.1 A.2).length+(KU n r x S F [] (S.filter λz=>decide (hm z=h))).length+(KU n r x S F [] (S.filter λz=>decide (hm z=g))).length=(S.filter λz=>decide (hm z=h)).length:=by
 subst j;have E:=EI.all W a S [] ([],[]) rfl EI.start;have c:=Gb W E f;obtain⟨e,l⟩:=uN W a h S [] ([],[]) rfl EI.start;obtain⟨b,_⟩:=uN W a g S [] ([],[]) rfl EI.start;have i: ∀L,(lZ S L).length=L.length:=λL=>by simp[lZ]
 have d:=congrArg Ua e;have k:=congrArg Ua b;rw[i] at d k;have z:lZ S (qP hm dn h ([]:Ld))=[]:=rfl;grind[qP,Jv]
end
theorem IB(l:List Nat):cq (l.map nI)=p5 (zs l):=by
 have:=iS (zs l);unfold zs at this⊢;rw[S4] at this;exact this
theorem vz {α:Type}{g:FG}{b:FS}{h:α->D}{out:α->List (List Int)}{P:List (List Int)->aB->Prop}: ∀(l:List α),(∀x∈l,∀ks ρ,P ks ρ-> ∃ρ1 ρ2,g (h x) ρ=p5 ρ1/\b ρ1=.nx ρ2/\P (ks++out x) ρ2)-> ∀ks ρ,P ks ρ-> ∃ρ',cu g b (l.map h) ρ=.nx ρ'/\P (ks++l.flatMap out) ρ'
 | [],_,ks,ρ,p=>⟨ρ,rfl,by nofun⟩
 |x::l,H,ks,ρ,p=>by
  obtain⟨ρ1,ρ2,i,f,a⟩:=H x (by simp) ks ρ p;obtain⟨ρ',e,d⟩:=vz l (λy c=>H y (by simp[c])) (ks++out x) ρ2 a;grind[bw]
theorem NW: ∀p,p<2-> ∀q,q<2->(p^^^q)+2*(p&&& q)=p+q:=by decide
theorem Ej(a b:Nat):(a^^^b)+2*(a&&& b)=a+b:=by
 induction a using jct generalizing b with
 |_ a c=>
  by_cases h:a=0
  ·nofun
  ·have i:=c (a / 2) (Nat.div_lt_self (Nat.pos_of_ne_zero h) (by simp)) (b / 2);rw[<-Nat.xor_div_two,<-Nat.and_div_two] at i;have s:=NW (a % 2) (UM _ (by simp)) (b % 2) (UM _ (by simp));rw[<-(Nat.xor_mod_two_pow (n:=1):(a^^^b) % 2=_),<-(Nat.and_mod_two_pow (n:=1):(a&&& b) % 2=_)] at s;lia
theorem Oc(a b:Nat):F8 (nI a) (nI b)=p5 (nI (a^^^b)):=by
 show p5 (D.int (ZX a b))=_;have h:Builtin.bitAnd (a:Int) b=((a&&& b:Nat):Int):=by
  rfl
 grind[Ej,bitXor_and]
theorem Q5(k:Nat)(h:k<=1000000):FV (.int 1) (nI k)=p5 (nI (2^k)):=by
 show(if(Oo ((0:Int)<=k)&&Oo ((k:Int)<=1000000)&&Oo ((1:Int).natAbs<2^64))=S1 then p5 (D.int (1*2^(k:Int).toNat)) else Sr)=_;rw[if_pos (by simp;lia)];simp
theorem LZ(S K:Cr)(z:List Int):nx S (K++[z])=nx S K^^^2^pl S z:=by simp[nx]
def q9(S T:Cr):lX:=T.map λs=>(iK s,nI (pl S s))
theorem Ep(S:Cr)(s:List Int): ∀T:Cr,s∈T->bZ (q9 S T) (iK s)=p5 (nI (pl S s))
 | [],h=>nomatch h
 |t::T,h=>by
  unfold q9 bZ;rw[SD,UK]
  by_cases e:t=s
  ·nofun
  ·rw[v7 (λq=>e (yI q))];exact Ep S s T (by grind)
section
variable {n:Nat}{r x:List Nat}(h2:2<=n)(hn:n<=5)(R:Ord n r)(X:Ord n x)
include h2 hn R X
def QB:FS:=gm (eR (bJ (ar uD (ah 4) (ah 5))) (ir (au (nF 4 jK) (af (ah 0) (af (ah 1) (af (ah 4) (af (ah 5) (aj)))))))) (aF (dh 6 (au wS (af (ah 1) (aj))))
 (aF (eF (gT 2 (ij (cA 6 (ah 4)) (ij (cA 6 (ah 5)) (m9)))) (pu (cQ (af (ar bt (ah 1) (ah 5)) (af (ar bt (ah 1) (ah 4)) (aj))))))
 (br 3 (ar F8 (ah 3) (ar FV (aH (.int 1)) (p7 (ah 2) (qz (cR 6)))))))) (el)
abbrev Ix(n:Nat)(r x o:List Nat)(ks:Cr)(b c a:Sl):aB:=[.v (bI r x),.v (ay o),.v (db (q9 (bo n) (bo n))),.v (nI (nx (bo n) ks)),b,c,a]
theorem Iz(d:Ord n o)(ks:Cr)(h:a<n)(f:b<n)(c:Sl):
 ∃g,QB (Ix n r x o ks (.v (nI a)) (.v (nI b)) c)=.nx (Ix n r x o (ks++if(Oo (a≠b)&&bH r x o a b)=S1 then [zs (bN o a b)] else []) (.v (nI a)) (.v (nI b)) g):=by
 have u:=d.len
 let st:Cr->Sl->aB:=λks c=>Ix n r x o ks (.v (nI a)) (.v (nI b)) c
 have m:bJ (ar uD (ah 4) (ah 5)) (st ks c)=p5 (Oo (a≠b)):=by
  refine b9 ((ax (x:=nI a) (y:=nI b) rfl rfl).trans ?_);simp[mC,eZ,jT]
 have w:eR (bJ (ar uD (ah 4) (ah 5))) (ir (au (nF 4 jK) (af (ah 0) (af (ah 1) (af (ah 4) (af (ah 5) (aj))))))) (st ks c)=p5 (Oo (a≠b)&&bH r x o a b):=
  j9 m (λz=>by
   rw[z,VR];refine ui ((bf (ds:=[bI r x,ay o,nI a,nI b]) rfl rfl).trans ((zb d.len R.len X.len ⋯ ⋯ h f).trans ?_))
   rw[De d R X h f (of_decide_eq_true z)]) (λz=>⋯)
 cases e:(decide (a≠b)&&bH r x o a b) with
 |false=>
  rw[e] at w;refine⟨c,(zI w).trans ?_⟩;simp[st]
 |true=>
  rw[e] at w;have l:dh 6 (au wS (af (ah 1) (aj))) (st ks c)=.nx (st ks (.own (o.map nI))):=(dS (ds:=o.map nI) rfl).trans rfl;have k:eF (gT 2 (ij (cA 6 (ah 4)) (ij (cA 6 (ah 5)) (m9)))) (pu (cQ (af (ar bt (ah 1) (ah 5)) (af (ar bt (ah 1) (ah 4)) (aj))))) (st ks (.own (o.map nI)))=.nx (st ks (.own ((bN o a b).map nI))):=by
   refine qj (nK (cJ (al ((ax (x:=ay o) (y:=nI b) rfl rfl).trans (fI (by nofun))) (al ((ax (x:=ay o) (y:=nI a) rfl rfl).trans (fI (by nofun))) rfl)) (by simp))) ?_
   simp only[gT,SX,VD,ij];rw[gJ (bs:=o.map nI) (j:=a) rfl rfl (by nofun)];simp only[SG];rw[gJ (bs:=(o.map nI).set a (nI (o.getD b 0))) (j:=b) rfl rfl (by simp;nofun)];simp only[SG,m9,oT];rfl
  have i:zs (bN o a b)∈bo n:=fc.mpr ⟨_,d.exx h f,rfl⟩;have p:pl (bo n) (zs (bN o a b))<=1000000:=by
   have:=List.idxOf_lt_length_iff.mpr i;have t:(bo n).length<=120:=by grind[eD]
   lia
  have s:p7 (ah 2) (qz (cR 6)) (st ks (.own ((bN o a b).map nI)))=p5 (nI (pl (bo n) (zs (bN o a b)))):=by
   unfold p7;rw[show qz (cR 6) (st ks (.own ((bN o a b).map nI)))=p5 (zs (bN o a b)) from IB _];show((p5 (db (q9 (bo n) (bo n)))).bind mz).bind _=_;rw[SG,i6];exact Ep _ _ _ i
  have q:br 3 (ar F8 (ah 3) (ar FV (aH (.int 1)) (p7 (ah 2) (qz (cR 6))))) (st ks (.own ((bN o a b).map nI)))=.nx (st (ks++[zs (bN o a b)]) (.own ((bN o a b).map nI))):=by
   refine(aY ((ax (x:=nI (nx (bo n) ks)) rfl ((ax (x:=.int 1) rfl s).trans (Q5 _ p))).trans (Oc _ _))).trans ?_
   rw[<-LZ];rfl
  rw[if_pos rfl];exact⟨.own ((bN o a b).map nI),(kK w).trans ((ao l).trans ((ao k).trans q))⟩
theorem KQ(y:Ord n o):dY [bI r x,ay o,db (q9 (bo n) (bo n))]=p5 (nI (nx (bo n) (cF n r x [zs o]))):=by
 have i: ∀(ks:Cr) (q f d:Sl),cL (af (au dO (af (ah 1) (aj))) (aj)) (Ix n r x o ks q f d)=p5 ((Su n).map nI):=λks q f d=>cV (n:=n) (al (by rw[cS o _ _ rfl,y.len]) rfl) ⋯
 let E:List (List Int)->aB->Prop:=λks ρ=> ∃q f d,ρ=Ix n r x o ks q f d
 have H:=vz (g:=gN 4) (b:=h8 (c8 (cL (af (au dO (af (ah 1) (aj))) (aj)))) (gN 5) QB) (h:=nI) (out:=λa=>((Su n).filter λb=>decide (a≠b)&&bH r x o a b).map λb=>zs (bN o a b)) (P:=E) (Su n) (λa C ks ρ j=>by
  obtain⟨q,f,d,rfl⟩:=j;rw[SV] at C
  let Pb:List (List Int)->aB->Prop:=λks ρ=> ∃f d,ρ=Ix n r x o ks (.v (nI a)) f d
  have D:=vz (g:=gN 5) (b:=QB) (h:=nI) (out:=λb=>if(Oo (a≠b)&&bH r x o a b)=S1 then [zs (bN o a b)] else []) (P:=Pb) (Su n) (λb B ks ρ j=>by
   obtain⟨f,d,rfl⟩:=j;rw[SV] at B;obtain⟨u,e⟩:=Iz h2 hn R X y ks C B d
   exact⟨_,_,rfl,e,_,_,rfl⟩) ks (Ix n r x o ks (.v (nI a)) f d) ⟨_,_,rfl⟩
  obtain⟨ρ',e,p⟩:=D;have A:((Su n).flatMap λb=>if(Oo (a≠b)&&bH r x o a b)=S1 then [zs (bN o a b)] else [])=((Su n).filter λb=>decide (a≠b)&&bH r x o a b).map λb=>zs (bN o a b):=by
   generalize Su n=l
   induction l<;>grind
  rw[A] at p;obtain⟨w,u,rfl⟩:=p
  exact⟨_,_,rfl,(bY (bj (i _ _ _ _))).trans e,_,_,_,rfl⟩) [] (Ix n r x o [] .no .no .no) ⟨_,_,_,rfl⟩
 obtain⟨ρ',e,p⟩:=H;have A:((Su n).flatMap λa=>((Su n).filter λb=>decide (a≠b)&&bH r x o a b).map λb=>zs (bN o a b))=bK n r x [zs o]:=by
  unfold bK;rw[T7,Zg,Uv];unfold eI sp;rw[d9,Uz];congr 1;funext a;simp
 rw[A,Wj] at p;obtain⟨F,w,u,rfl⟩:=p;apply aZ (kd:=.s) (n:=7) (t:=g8);unfold g8 j2;dsimp only;refine(ao (ρ':=Ix n r x o [] .no .no .no) rfl).trans ?_
 refine(ao ((bY (bj (i _ _ _ _))).trans e)).trans (ba ?_);have k:oj n [zs o]:=dy.mp λz hz=>by rw[Th.mp hz];exact fc.mpr ⟨o,y,rfl⟩
 have U:Up (bo n):=⟨y8 n hn,lf n hn⟩
 have G:nx (bo n) (bK n r x [zs o])=nx (bo n) (cF n r x [zs o]):=NS U (dy.mpr (yc k)) (dy.mpr (t9 k)) λz _=>by
  have m:z∈cF n r x [zs o]↔(bK n r x [zs o]).count z % 2=1:=gx;have c:=(nq (n:=n) (r:=r) (x:=x) [zs o]).2.count (a:=z);lia
 show p5 (nI (nx (bo n) (bK n r x [zs o])))=_;rw[G]
end
def kQ(Q:List (Nat×Nat)):List (aP×D):=Q.map λp=>(.inl (p.1:Int),nI p.2)
theorem ur(i:Nat): ∀Q,qy (kQ Q) (.inl (i:Int))=(FQ Q i).map nI
 | []=>rfl
 |p::Q=>by
  have a:=ur i Q;unfold qy kQ FQ at a⊢;grind[Sum.inl.inj]
def Qi(Q:List (Nat×Nat)):Prop:= ∀p∈Q,p.2≠0/\p.2.log2=p.1
theorem KD(h:FQ Q i=p5 d):(i,d)∈Q:=by
 unfold FQ at h;obtain⟨p,a,b⟩:=S0.mp h;grind
theorem HN {m d k:Nat}(c:m≠0)(g:d≠0)(e:d.log2=m.log2)(h:m<2^(k+1)):m^^^d<2^k:=by
 have a:=(ZF c).mp rfl;have b:=(ZF g).mp e;have f:m.log2<=k:=by
  have:=(jcb c).mpr h;lia
 refine SQ (WR _ λi j=>?_) (TW (by simp) f);rw[W2]
 by_cases q:i=m.log2
 ·grind[Nat.testBit_log2]
 ·rw[Wh (SQ a.2 (TW (by simp) ⋯)),Wh (SQ b.2 (TW (by simp) ⋯))];rfl
abbrev yJ(A:D)(Q:List (Nat×Nat))(m:Nat):aB:=[.v A,.ob (.dK (kQ Q)),.v (nI m)]
def F3:FT:=eR (bJ (ar FK (ah 2) (aH (.int 0)))) (M8 1 (ar cw (nh (ah 2)) (aH (.int 1))))
def Nb:FS:=br 2 (ar F8 (ah 2) (Lg 1 (ar cw (nh (ah 2)) (aH (.int 1)))))
theorem RG(A:D)(Q:List (Nat×Nat))(m:Nat):bJ (ar FK (ah 2) (aH (.int 0))) (yJ A Q m)=p5 (Oo (m≠0)):=by
 refine b9 ((ax (x:=nI m) (y:=.int 0) rfl rfl).trans ?_);rw[uW];congr 2;lia
theorem tQ(A:D)(Q:List (Nat×Nat)){m:Nat}(h:m≠0):ar cw (nh (ah 2)) (aH (.int 1)) (yJ A Q m)=p5 (nI m.log2):=by
 have b:nh (ah 2) (yJ A Q m)=p5 (nI (m.log2+1)):=by
  show p5 (D.int (Vm m))=_;unfold Vm;nofun
 refine(ax b (y:=.int 1) rfl).trans ((du _ _).trans ?_);simp
theorem Ol(A:D)(Q:List (Nat×Nat)):F3 (yJ A Q 0)=p5 false:=by
 rfl
theorem RE(A:D)(Q:List (Nat×Nat)){m:Nat}(h:m≠0):F3 (yJ A Q m)=p5 (FQ Q m.log2).isSome:=by
 unfold F3;refine tI (by rw[RG,v3 h]) ?_
 unfold M8;rw[tQ A Q h];show p5 (qy (kQ Q) (.inl (m.log2:Int))).isSome=_;simp[ur]
theorem Q2(A:D)(Q:List (Nat×Nat)){m d:Nat}(h:m≠0)(k:FQ Q m.log2=p5 d):Nb (yJ A Q m)=.nx (yJ A Q (m^^^d)):=by
 have e:Lg 1 (ar cw (nh (ah 2)) (aH (.int 1))) (yJ A Q m)=p5 (nI d):=by
  unfold Lg;rw[tQ A Q h];show qy (kQ Q) (.inl (m.log2:Int))=_;rw[ur,k];rfl
 exact(aY ((ax (x:=nI m) rfl e).trans (Oc m d))).trans rfl
theorem xM(A:D)(q:Qi Q): ∀(f m:Nat),m<2^f->jA F3 Nb (f+1) (yJ A Q m)=.nx (yJ A Q (Ca Q f m))/\Ca Q f m<2^f/\(Ca Q f m=0\/FQ Q (Ca Q f m).log2=Sr)
 |0,m,h=>by
  have:m=0:=by simpa using h
  subst this;exact⟨jh (Ol A Q),h,.inl rfl⟩
 |f+1,m,h=>by
  unfold Ca
  by_cases z:m=0
  ·subst z;exact⟨jh (Ol A Q),h,.inl rfl⟩
  ·rw[if_neg z];have c:=RE A Q z;cases k:FQ Q m.log2 with
   |none=>
    rw[k] at c;exact⟨jh c,h,.inr k⟩
   |some d=>
    rw[k] at c;obtain⟨e,g⟩:=q _ (KD k);obtain⟨b,i2,a⟩:=xM A q f (m^^^d) (HN z e g h);refine⟨(HS c (Q2 A Q z k)).trans b,SQ i2 (TW (by simp) (by simp)),a⟩
def LW:FS:=aF (jA F3 Nb 130) (gm (bJ (ar FK (ah 2) (aH (.int 0)))) (Bq 1 (ar cw (nh (ah 2)) (aH (.int 1))) (ah 2)) (el))
theorem K6(A:D){Q:List (Nat×Nat)}(q:Qi Q)(lq:Q.length<=1000)(h:m<2^129): ∃a,LW (yJ A Q m)=.nx (yJ A (Ie 129 Q m) a)/\Qi (Ie 129 Q m)/\(Ie 129 Q m).length<=Q.length+1:=by
 obtain⟨w,lt,st⟩:=xM A q 129 m h;unfold LW Ie;rw[ao w];generalize Ca Q 129 m=a at lt st
 by_cases z:a=0
 ·subst z;rw[if_pos rfl];exact⟨0,kl (by rfl),q,W9 _⟩
 ·rw[if_neg z];have b:qy (kQ Q) (.inl (a.log2:Int))=none:=by
   rw[ur];nofun
  refine⟨a,(kK (by grind[RG])).trans ?_,?_,by simp⟩
  ·unfold Bq;rw[show vA 1 (yJ A Q a)=p5 (kQ Q) from rfl];dsimp only;rw[show ah 2 (yJ A Q a)=p5 (nI a) from rfl];dsimp only;rw[tQ A Q z];show(if(kQ Q).length<=1000 then Out.nx [Sl.v A,.ob (.dK (putD (kQ Q) (.inl (a.log2:Int)) (nI a))),.v (nI a)] else _)=_;rw[if_pos (by grind[kQ])];have:putD (kQ Q) (.inl (a.log2:Int)) (nI a)=kQ (Q++[(a.log2,a)]):=by
    unfold putD;rw[if_neg]
    ·simp[kQ]
    ·intro w;obtain⟨p,e,d⟩:=Zc.mp w;unfold qy at b;have:=Yl.mp (UZ.mp b) p e;exact this d
   lia
  ·intro p c;rcases Tf.mp c with w|w
   ·exact q p w
   nofun
theorem An(A:D): ∀(b:List Nat) (Q:List (Nat×Nat)) (c:Sl),(∀m∈b,m<2^129)->Qi Q->Q.length+b.length<=900-> ∃a,cu (gN 2) LW (b.map nI) [.v A,.ob (.dK (kQ Q)),c]=.nx [.v A,.ob (.dK (kQ (b.foldl (Ie 129) Q))),a]
 | [],Q,c,_,_,_=>⟨c,rfl⟩
 |m::b,Q,c,d,q,f=>by
  rw[SX] at f;obtain⟨g,e,h,j⟩:=K6 A q ⋯ (d m (by simp));obtain⟨a,i⟩:=An A b _ (.v (nI g)) (λz hz=>d z (by simp[hz])) h (by grind);refine⟨a,?_⟩;rw[SD];exact(bw (ρ1:=yJ A Q m) rfl e).trans i
theorem Iw {a:List Nat}(b: ∀m∈a,m<2^129)(d:a.length<=900):dD [.lst (a.map nI)]=p5 (nI (a.foldl (Ie 129) []).length):=by
 obtain⟨c,e⟩:=An (.lst (a.map nI)) a [] .no b (λ_ h=>nomatch h) (by nofun);apply aZ (kd:=.s) (n:=3) (t:=jQ);unfold jQ md;dsimp only;refine(ao (ρ':=[.v (.lst (a.map nI)),.ob (.dK (kQ [])),.no]) rfl).trans ?_
 refine(ao ((bY (bj (gp rfl))).trans e)).trans (ba ?_);show p5 (D.int (kQ _).length)=_;simp[kQ]
def cG(a:Nat):List Nat->Nat
 | []=>0
 |b::l=>cond (jag a b) (Y9 (cG a l)) (cG a l)
def Mk:List Nat->List Nat->Nat
 |a::o,b::r=>XN (XN (cG a (b::r)) (cG (Y9 b) o)) (Mk o r)
 |_,_=>0
def N4:List Nat->Nat
 |a::o=>XN (cG (Y9 a) o) (N4 o)
 |_=>0
def gF(r o:List Nat):Nat:=Yj (XN 40 (N4 o)) (Mk o r)
def sT(r:List Nat):List (List Nat)->Nat
 | []=>0
 |o::L=>Nat.lor (Vz 2 (w8 o (gF r))) (sT r L)
def Sj(B:Nat):Bool:=(Su 40).any λi=>WN (jgx B (Nat.shiftLeft 127 i)) B
def RY(n:Nat)(r:List Nat):Bool:=w8 r λa=>Qk (sT a (ge n n)) Sj
theorem Sf: ∀n,n<=5->(ge n n).all (RY n)=true:=by decide+kernel
theorem xn(r:List Nat): ∀ {L:List (List Nat)},o∈L->(sT r L).testBit (gF r o)=S1
 |u::L,h=>by
  show(2^(w8 u (gF r))|||sT r L).testBit _=S1;rw[Nat.testBit_or,kX];rcases S6.mp h with e|e
  ·nofun
  ·rw[xn r e,Bool.or_true]
theorem LH(f:n<=5)(R:Ord n r): ∃d,∀o,Ord n o->d<=gF r o/\gF r o<d+7:=by
 have a: ∀ {o:List Nat},Ord n o->o∈ge n n:=λ{o} O=>by
  have m:=vQ O n (SB _);rwa [show o.take n=o from Xf (by rw[O.len];simp)] at m
 have c:=TZ.mp (Sf n f) r (a R);unfold RY at c;rw[kX,ya] at c;obtain⟨i,_,e⟩:=Zc.mp c;have e:sT r (ge n n)&&& (127<<<i)=sT r (ge n n):=Ws e;refine⟨i,λo O=>?_⟩;have b:=xn r (a O);rw[<-e,ZE,Nat.testBit_shiftLeft] at b;simp only[TR,vu] at b;refine⟨b.2.1,?_⟩
 by_cases q:gF r o<i+7
 ·exact q
 ·have:=Wh (x:=127) (i:=gF r o-i) (SQ (show 127<2^7 by simp) (TW () ⋯));nofun
theorem lw(n:Nat)(f:Nat->Int):ls (Su (n+1)) f=f 0+ls (Su n) λi=>f (i+1):=by
 simp[Vq,fw,yA]
theorem Bg(a:Nat): ∀l:List Nat,(cG a l:Int)=ls (Su l.length) λj=>bi (Oo (a<=l.getD j 0))
 | []=>rfl
 |b::l=>by
  have c:=Bg a l;rw[SX,lw];unfold cG;show((cond (jag a b) _ _:Nat):Int)=bi (Oo (a<=b))+ls _ λj=>bi (Oo (a<=l.getD j 0))
  rw[<-c]
  by_cases e:a<=b
  ·rw[Nat.ble_eq_true_of_le e,v3 e];show((cG a l+1:Nat):Int)=1+_;grind
  ·have:jag a b=false:=by
    cases q:jag a b with
    |true=>exact absurd (SE q) e
    |false=>rfl
   rw[this,v7 e];show(cG a l:Int)=0+_;simp
theorem D5: ∀o:List Nat,(N4 o:Int)=lM o.length o
 | []=>rfl
 |a::o=>by
  have b:=D5 o;unfold lM at b⊢;rw[SX,lw,lw];show((cG (a+1) o+N4 o:Nat):Int)=_;have e:(ls (Su o.length) λi=>bi (Oo (0<i+1)&&Oo ((a::o).getD 0 0<(a::o).getD (i+1) 0)))=cG (a+1) o:=by
   rw[Bg];rfl
  have c:(ls (Su o.length) λi=>ls (Su (o.length+1)) λj=>bi (Oo (i+1<j)&&Oo ((a::o).getD (i+1) 0<(a::o).getD j 0)))=N4 o:=by
   rw[b];refine bP λi _=>?_
   rw[lw];have:bi (Oo (i+1<0)&&Oo ((a::o).getD (i+1) 0<(a::o).getD 0 0))=0:=by rfl
   rw[this,Yk];simp
  have d:bi (Oo (0<0)&&Oo ((a::o).getD 0 0<(a::o).getD 0 0))=0:=rfl;grind
theorem GZ: ∀o r:List Nat,o.length=r.length->(Mk o r:Int)=Ih o.length r o+Id o.length r o
 | [],[],_=>rfl
 |a::o,b::r,h=>by
  have d:o.length=r.length:=by simpa using h
  have j:=GZ o r d;unfold Ih Id at j⊢;rw[SX,lw,lw (o.length) (λc=>ls (Su (o.length+1)) λi=>bi (Oo (c<i)&&Oo ((b::r).getD c 0<(a::o).getD i 0)))];show((cG a (b::r)+cG (b+1) o+Mk o r:Nat):Int)=_;have g:(ls (Su (o.length+1)) λc=>bi (Oo (0<=c)&&Oo ((a::o).getD 0 0<=(b::r).getD c 0)))=cG a (b::r):=by
   rw[Bg,SX,d];rfl
  have k:(ls (Su (o.length+1)) λi=>bi (Oo (0<i)&&Oo ((b::r).getD 0 0<(a::o).getD i 0)))=cG (b+1) o:=by
   rw[lw,Bg];have:bi (Oo (0<0)&&Oo ((b::r).getD 0 0<(a::o).getD 0 0))=0:=rfl;rw[this,Yk];rfl
  have f:(ls (Su o.length) λi=>ls (Su (o.length+1)) λc=>bi (Oo (i+1<=c)&&Oo ((a::o).getD (i+1) 0<=(b::r).getD c 0)))=ls (Su o.length) λi=>ls (Su o.length) λc=>bi (Oo (i<=c)&&Oo (o.getD i 0<=r.getD c 0)):=by
   refine bP λi _=>?_
   rw[lw];have:bi (Oo (i+1<=0)&&Oo ((a::o).getD (i+1) 0<=(b::r).getD 0 0))=0:=by rfl
   rw[this,Yk];simp
  have e:(ls (Su o.length) λi=>ls (Su (o.length+1)) λc=>bi (Oo (i+1<c)&&Oo ((b::r).getD (i+1) 0<(a::o).getD c 0)))=ls (Su o.length) λi=>ls (Su o.length) λc=>bi (Oo (i<c)&&Oo (r.getD i 0<o.getD c 0)):=by
   refine bP λi _=>?_
   rw[lw];have:bi (Oo (i+1<0)&&Oo ((b::r).getD (i+1) 0<(a::o).getD 0 0))=0:=by rfl
   rw[this,Yk];simp
  rw[g,k,f,e];grind
 | [],_::_,h=>nomatch h
 |_::_,[],h=>nomatch h
theorem zP(a:Nat): ∀l:List Nat,cG a l<=l.length
 | []=>SB _
 |b::l=>by
  have c:=zP a l;unfold cG;rw[SX];cases jag a b
  ·exact jbi c
  nofun
theorem Bc: ∀o r:List Nat,o.length=r.length->Mk o r<=o.length*(o.length+1)
 | [],[],_=>SB _
 |a::o,b::r,h=>by
  have d:o.length=r.length:=by simpa using h
  have f:=Bc o r d;have c:=zP a (b::r);have e:=zP (b+1) o;show cG a (b::r)+cG (b+1) o+Mk o r<=_;rw[SX] at c⊢;lia
 | [],_::_,h=>nomatch h
 |_::_,[],h=>nomatch h
theorem Ia(b:n<=5)(R:Ord n r)(O:Ord n o):(gF r o:Int)=ic n r o-lM n r+39:=by
 have u:=Bc o r (by rw[R.len,O.len]);have a:=D5 o;have c:=GZ o r (by rw[R.len,O.len]);rw[O.len] at u a c;have:n*(n+1)<=5*6:=V3 b (by nofun);unfold ic;show((40+N4 o-Mk o r:Nat):Int)=_;lia
theorem sv {n m:Nat}(g:n<=5)(R:Ord n r)(X:Ord n x){l:Cr}(C:l.Nodup)(h: ∀z∈l,∃s∈bo n,fh n m r x s=z):l.length<64:=by
 obtain⟨d,i⟩:=LH g R;obtain⟨f,k⟩:=LH g X
 let t:List Int->Nat:=λz=>((z.getD 0 0-lM n r+39-d)*7+(z.getD 0 0-z.getD 1 0-n+m-lM n x+39-f)).toNat
 have c: ∀z∈l,∃p q:Nat,z=[(p:Int)+d+lM n r-39,(p:Int)+d+lM n r-39- ((q:Int)+f+lM n x-39) -n+m]/\p<7/\q<7/\t z=p*7+q:=λz hz=>by
  obtain⟨s,D,rfl⟩:=h z hz;obtain⟨o,O,rfl⟩:=fc.mp D;have L:=Ia g R O;have M:=Ia g X O;obtain⟨J,P⟩:=i o O;obtain⟨N,H⟩:=k o O;refine⟨gF r o-d,gF x o-f,?_,⋯,by grind,?_⟩
  ·unfold fh;rw[d9];congr 1
   ·grind
   grind
  ·show(((fh n m r x (zs o)).getD 0 0-lM n r+39-d)*7+((fh n m r x (zs o)).getD 0 0- (fh n m r x (zs o)).getD 1 0-n+m-lM n x+39-f)).toNat=_;unfold fh;rw[d9];simp only[List.getD_cons_zero,List.getD_cons_succ];grind
 have j:(l.map t).Nodup:=by
  rw[Yx,Ug];refine U9 (λ{a b} B v F e=>F ?_) C;obtain⟨p,q,I,S,Q,K⟩:=c a B;obtain⟨G,y,u,A,w,E⟩:=c b v;have:p=G/\q=y:=by omega
  nofun
 have:=gw (n:=49) j λz hz=>by
  grind
 rw[SO] at this;lia
theorem MU {S:Cr}(b:S.Nodup):jY (S.map a7)=S.map λs=>D.tup [nI (pl S s),a7 s]:=by
 unfold jY;refine U8 (by simp) λi c a=>?_
 have d:i<S.length:=by simpa using a
 nofun
theorem MB(S:Cr)(a:List Int->List Int):uU (S.map a7) ((S.map a).map a7)=S.map λs=>D.tup [a7 s,a7 (a s)]:=by
 unfold uU;refine U8 (by simp) λi c b=>?_
 grind
section
variable {n:Nat}{r x:List Nat}{S:Nat->Nat}(R:Ord n r)(X:Ord n x)(H:Sg n r x S)(h2:2<=n)(h5:n<=5)
include R X H h2 h5
def HU:FS:=aF (br 5 (au (nF 2 dM) (af (ar bt (ah 0) (aH (.int 0))) (af (ah 4) (aj)))))
 (cz (aV 3 1 mj (c8 (af (cQ (af (ah 5) (af (ar cw (ar cw (ah 5) (au (nF 2 dM) (af (ar bt (ah 0) (aH (.int 1))) (af (ah 4) (aj))))) (ah 2)) (aj)))) (aj)))))
theorem Bd(A:D): ∀(T F:Cr) (h f:Sl),(∀z∈T,z∈bo n)->F.length+T.length<=900-> ∃c a,cu (gN 4) HU (T.map a7) [.v (bI r x),.v A,.v (.int (n- (eM n S:Nat))),.own (F.map a7),h,f]=.nx [.v (bI r x),.v A,.v (.int (n- (eM n S:Nat))),.own ((F++T.map (fh n (eM n S) r x)).map a7),c,a]
 | [],F,h,f,_,_=>⟨h,f,by simp[cu]⟩
 |s::T,F,h,f,j,l=>by
  rw[SX] at l;obtain⟨o,O,rfl⟩:=fc.mp (j s (by simp))
  let g:D:=.int (ic n r o)
  have m:br 5 (au (nF 2 dM) (af (ar bt (ah 0) (aH (.int 0))) (af (ah 4) (aj)))) [.v (bI r x),.v A,.v (.int (n- (eM n S:Nat))),.own (F.map a7),.v (a7 (zs o)),f]=.nx [.v (bI r x),.v A,.v (.int (n- (eM n S:Nat))),.own (F.map a7),.v (a7 (zs o)),.v g]:=
   (aY ((bf (ds:=[ay r,ay o]) (al rfl (al (by rw[jU];rfl) rfl)) rfl).trans (mX R.len O.len (by grind)))).trans rfl
  have k:cQ (af (ah 5) (af (ar cw (ar cw (ah 5) (au (nF 2 dM) (af (ar bt (ah 0) (aH (.int 1))) (af (ah 4) (aj))))) (ah 2)) (aj))) [.v (bI r x),.v A,.v (.int (n- (eM n S:Nat))),.own (F.map a7),.v (a7 (zs o)),.v g]=p5 (a7 (fh n (eM n S) r x (zs o))):=by
   refine(cJ (ds:=[g,.int (ic n r o-ic n x o- (n- (eM n S:Nat)))]) (al rfl (al ((ax ((ax (x:=g) rfl ((bf (ds:=[ay x,ay o]) (al rfl (al (by rw[jU];rfl) rfl)) rfl).trans (mX X.len O.len ⋯))).trans (du _ _)) rfl).trans (du _ _)) rfl)) (by simp)).trans ?_
   unfold fh;rw[d9];have:ic n r o-ic n x o- (n- (eM n S:Nat))=ic n r o-ic n x o-n+(eM n S:Nat):=by omega
   rw[this];rfl
  have b:HU [.v (bI r x),.v A,.v (.int (n- (eM n S:Nat))),.own (F.map a7),.v (a7 (zs o)),f]=.nx [.v (bI r x),.v A,.v (.int (n- (eM n S:Nat))),.own ((F++[fh n (eM n S) r x (zs o)]).map a7),.v (a7 (zs o)),.v g]:=by
   unfold HU;refine(ao m).trans ((vI (i:=3) (b0:=F.map a7) (bs:=F.map a7) (d:=a7 (fh n (eM n S) r x (zs o))) rfl (bj (al k rfl)) rfl (by simp;grind)).trans ?_);rw[Tb];rfl
  obtain⟨c,a,e⟩:=Bd A T (F++[fh n (eM n S) r x (zs o)]) (.v (a7 (zs o))) (.v g) (λz hz=>j z (by simp[hz])) (by simp;lia);refine⟨c,a,?_⟩;rw[SD];refine(bw (ρ1:=[.v (bI r x),.v A,.v (.int (n- (eM n S:Nat))),.own (F.map a7),.v (a7 (zs o)),f]) rfl b).trans (e.trans ?_);simp
theorem Hl:gj [bI r x,kD (bo n)]=p5 (kD ((bo n).map (fh n (eM n S) r x))):=by
 have a:(bo n).length<=120:=by grind[eD]
 obtain⟨b,c,e⟩:=Bd R X H h2 h5 (kD (bo n)) (bo n) [] .no .no (λ_ h=>h) (by show 0+_<=900;lia);apply aZ (kd:=.n) (n:=6) (t:=iC);unfold iC km;dsimp only;refine(ao (ρ':=[.v (bI r x),.v (kD (bo n)),.v (.int (n- (eM n S:Nat))),.no,.no,.no]) ((aY ((ax (R.len▸cS r _ _ rfl) ((bf (ds:=[bI r x]) rfl rfl).trans (C2 R H ⋯))).trans (du _ _))).trans rfl)).trans ?_
 refine(ao (ρ':=[.v (bI r x),.v (kD (bo n)),.v (.int (n- (eM n S:Nat))),.own (([]:Cr).map a7),.no,.no]) rfl).trans ?_
 refine(ao ((bY (bj (gp rfl))).trans e)).trans ?_
 rw[Wj];rfl
abbrev IF(n:Nat)(r x:List Nat)(s:List Int):Nat:=nx (bo n) (cF n r x [s])
omit X H in
theorem Pe(s:List Int)(b:s∈bo n):IF n r x s<2^129:=by
 have c:(bo n).length<=120:=by grind[eD]
 have a:oj n [s]:=dy.mp λz hz=>by rw[Th.mp hz];exact b
 refine WR _ λi d=>?_
 rw[iF ⟨y8 n h5,lf n h5⟩ (dy.mpr (t9 a)),Wp (show(bo n).length<=i by lia)]
def G7:FS:=A2 5 (nO (ah 6)) (au (nF 3 dY) (af (ah 0) (af (ah 4) (af (ah 2) (aj)))))
abbrev Ev(n:Nat)(r x:List Nat)(b c:Sl)(kvs:n9)(a:Sl):aB:=[.v (bI r x),.v (kD (bo n)),.v (db (q9 (bo n) (bo n))),b,c,.ob (.dN kvs),a,.no,.no,.no,.no]
theorem Bj(b:Sl): ∀(T P:Cr) (kvs:n9) (h g:Sl),(∀z∈T,z∈bo n)->HI (λs=>nI (IF n r x s)) (fh n (eM n S) r x) P kvs->P.length+T.length<=900->
 ∃a c f,cu (gT 2 (ij (gN 4) (ij (gN 6) (m9)))) G7 (T.map λs=>D.tup [a7 s,a7 (fh n (eM n S) r x s)]) (Ev n r x b h kvs g)=.nx (Ev n r x b c a f)/\HI (λs=>nI (IF n r x s)) (fh n (eM n S) r x) (P++T) a
 | [],P,kvs,h,g,_,I,_=>⟨kvs,h,g,rfl,by nofun⟩
 |s::T,P,kvs,h,g,i,I,l=>by
  rw[SX] at l;obtain⟨o,O,j⟩:=fc.mp (i s (by simp));have k:au (nF 3 dY) (af (ah 0) (af (ah 4) (af (ah 2) (aj)))) (Ev n r x b (.v (a7 s)) (Js kvs (iK (fh n (eM n S) r x s))) (.v (a7 (fh n (eM n S) r x s))))=p5 (nI (IF n r x s)):=by
   subst j;exact(bf (ds:=[bI r x,ay o,db (q9 (bo n) (bo n))]) (al rfl (al (by rw[jU];rfl) (al rfl rfl))) rfl).trans (KQ h2 h5 R X O)
  have st:G7 (Ev n r x b (.v (a7 s)) kvs (.v (a7 (fh n (eM n S) r x s))))=.nx (Ev n r x b (.v (a7 s)) (cM kvs (iK (fh n (eM n S) r x s)) (nI (IF n r x s))) (.v (a7 (fh n (eM n S) r x s)))):=by
   unfold G7 A2;rw[show nO (ah 6) (Ev n r x b (.v (a7 s)) kvs (.v (a7 (fh n (eM n S) r x s))))=p5 (fh n (eM n S) r x s) from fx _];show(match au (nF 3 dY) (af (ah 0) (af (ah 4) (af (ah 2) (aj)))) (Ev n r x b (.v (a7 s)) (Js kvs (iK (fh n (eM n S) r x s))) (.v (a7 (fh n (eM n S) r x s)))) with|some d=>if kvs.length<=1000/\ ∀z∈kvs,z.2.length<=1000 then _ else _|none=>_)=_;rw[k];dsimp only;rw[if_pos ⟨Tz I.ln ⋯,λz hz=>Tz (I.ll z hz) (by grind)⟩];rfl
  obtain⟨a,c,f,e,J⟩:=Bj b T (P++[s]) _ (.v (a7 s)) (.v (a7 (fh n (eM n S) r x s))) (λz hz=>i z (by simp[hz])) (I.step s) (by simp;omega);refine⟨a,c,f,?_,by simpa using J⟩;rw[SD];exact(bw (ρ1:=Ev n r x b (.v (a7 s)) kvs (.v (a7 (fh n (eM n S) r x s)))) rfl st).trans e
end
def u3(c:List Int->Nat)(z:List Int):D:=.tup [.int (z.getD 0 0),.int (z.getD 1 0),nI (c z)]
theorem B5(c:List Int->Nat): ∀l:Cr,bM (l.map (u3 c))<=1
 | []=>by simp[bM]
 |z::l=>by
  rw[SD];unfold bM;have:=B5 c l;have:d7 (u3 c z)=1:=by rfl
  nofun
theorem GP(c:List Int->Nat)(l:Cr):d7 (.lst (l.map (u3 c)))<=32:=by
 unfold d7;grind[B5]
theorem ED {l:Cr}(a:l.Nodup):Up (aU aS l):=⟨fB n6 l,(a8 (lt:=aS) l).nodup_iff.mpr a⟩
theorem sy{z:List Int}:z∈aU aS l↔z∈l:=(a8 (lt:=aS) l).mem_iff
theorem AX(n m:Nat)(r x:List Nat)(s:List Int): ∃a b,fh n m r x s=[a,b]:=⟨_,_,rfl⟩
section
variable {n:Nat}{r x:List Nat}{S:Nat->Nat}(R:Ord n r)(X:Ord n x)(H:Sg n r x S)(h2:2<=n)(h5:n<=5)(hx: ∀c,c<n->r.getD c 0≠x.getD c 0)
noncomputable abbrev HK(n:Nat)(r x:List Nat)(S:Nat->Nat):List Int->List Int:=fh n (eM n S) r x
abbrev qZ(n:Nat)(r x:List Nat):Cr:=JP (wD n r x).1 (wD n r x).2
noncomputable abbrev gv(n:Nat)(r x:List Nat)(S:Nat->Nat)(z:List Int):Nat:=((qZ n r x).map (HK n r x S)).count z
include R X H h2 h5 hx
omit H in
theorem G0:(∀s∈qZ n r x,s∈bo n)/\(qZ n r x).length<=120:=by
 have E:=GD R X h2 h5 hx;have b:(bo n).length<=120:=by grind[eD]
 have c:=E.ln;refine⟨λs a=>E.cs.subset (Tg.mp a).1,?_⟩;have:=U5 (λs=>decide (s∉(wD n r x).2.map (·.1))) ((wD n r x).1.map (·.1));rw[SO] at this;unfold qZ JP;grind
theorem MX{a b:Int}(e:HK n r x S s=[a,b]):gv n r x S [a,b]+(KU n r x (bo n) 129 [] ((bo n).filter λu=>decide (HK n r x S u=[a,b]))).length+(KU n r x (bo n) 129 [] ((bo n).filter λu=>decide (HK n r x S u=[a+1,b]))).length=((bo n).filter λu=>decide (HK n r x S u=[a,b])).length:=by
 have d:(bo n).length<=129:=by grind[eD]
 have W:=A5 R X h2 h5 hx;have t:=xh W d (h:=l8 n r x s) (g:=((l8 n r x s).1+1,(l8 n r x s).2+1)) (by simp[AH]) (A:=wD n r x) rfl;have f: ∀u,Oo (HK n r x S u=[a,b])=Oo (l8 n r x u=l8 n r x s):=λu=>by
  rw[<-e,decide_eq_decide];exact L3
 have i: ∀u,Oo (HK n r x S u=[a+1,b])=Oo (l8 n r x u=((l8 n r x s).1+1,(l8 n r x s).2+1)):=λu=>by
  rw[decide_eq_decide];unfold HK fh at e⊢;unfold l8;simp only[List.cons.injEq,Prod.mk.injEq,and_true] at e⊢;lia
 have c:gv n r x S [a,b]=(Pr (l8 n r x) (l8 n r x s) (wD n r x).1 (wD n r x).2).length:=by
  unfold gv qZ JP Pr;rw[List.count_eq_countP,jcu,List.countP_filter,<-X6];refine jbv λu _=>?_
  simp only[jec,beq_iff_eq,TR,vu,Ut,decide_eq_false_iff_not];have:=decide_eq_decide.mp (f u);rw[this];exact And.comm
 nofun
def Hu:FS:=(aF (br 10 (ar cw (au dO (af (p7 (ah 5) (pF (af (ah 8) (af (ah 9) (aj))))) (aj))) (au (nF 1 dD) (af (p7 (ah 5) (pF (af (ah 8) (af (ah 9) (aj))))) (aj)))))
 (aF (br 10 (ar cw (ah 10) (au (nF 1 dD) (af (wC (ah 5) (pF (af (ar bG (ah 8) (aH (.int 1))) (af (ah 9) (aj)))) (cD (aj))) (aj)))))
 (gm (bJ (ar FK (ah 10) (aH (.int 0)))) (cz (aV 7 1 mj (c8 (af (cQ (af (ah 8) (af (ah 9) (af (ah 10) (aj))))) (aj))))) (el))))
abbrev Lq(n:Nat)(r x:List Nat)(e f b:Sl)(kvs:n9)(F:List D)(d c a:Sl):aB:=[.v (bI r x),.v (kD (bo n)),.v (db (q9 (bo n) (bo n))),e,f,.v (db (kvs.map λz=>(z.1,D.lst z.2))),b,.own F,d,c,a]
theorem ET(I:HI (λs=>nI (IF n r x s)) (HK n r x S) (bo n) kvs)(o q p f:Sl){F:List D}(T:F.length<=800)(J:s∈bo n)(e:HK n r x S s=[a,b]):
 ∃l,Hu (Lq n r x o q p kvs F (.v (.int a)) (.v (.int b)) f)=.nx (Lq n r x o q p kvs (F++if 0<gv n r x S [a,b] then [u3 (gv n r x S) [a,b]] else []) (.v (.int a)) (.v (.int b)) l):=by
 have M:(bo n).length<=120:=by grind[eD]
 let j:List Int->Cr:=λz=>(bo n).filter λu=>decide (HK n r x S u=z)
 let h:List Int->List Nat:=λz=>(j z).map λu=>IF n r x u
 have G: ∀z,(j z).length<=120:=λz=>Tz (U5 _ _) M
 have w: ∀z,dD [.lst ((h z).map nI)]=p5 (nI (KU n r x (bo n) 129 [] (j z)).length):=λz=>by
  refine(Iw (λm O=>?_) (by grind)).trans ?_
  ·obtain⟨u,Q,rfl⟩:=SY.mp O;exact Pe R h2 h5 u (Tg.mp Q).1
  ·unfold KU;rw[List.foldl_map]
 have t: ∀z,(j z).map (λs=>nI (IF n r x s))=(h z).map nI:=λz=>by rw[S4];rfl
 have c:=MX R X H h2 h5 hx e
 let st:Sl->aB:=λf=>Lq n r x o q p kvs F (.v (.int a)) (.v (.int b)) f
 have E: ∀f,p7 (ah 5) (pF (af (ah 8) (af (ah 9) (aj)))) (st f)=p5 (.lst ((h [a,b]).map nI)):=λf=>by
  unfold p7;rw[show pF (af (ah 8) (af (ah 9) (aj))) (st f)=p5 [a,b] from rfl];show((p5 (db (kvs.map λz=>(z.1,D.lst z.2)))).bind mz).bind _=_;rw[SG,i6,SG,SG,xi];have L:=I.is s J;have i2:=I.fn [a,b];rw[e] at L;cases k:vU kvs (iK [a,b]) with
  |none=>nofun
  |some ds=>
   rw[k,Zh] at i2;rw[i2,<-t];rfl
 have N: ∀f,wC (ah 5) (pF (af (ar bG (ah 8) (aH (.int 1))) (af (ah 9) (aj)))) (cD (aj)) (st f)=p5 (.lst ((h [a+1,b]).map nI)):=λf=>by
  unfold wC;rw[show pF (af (ar bG (ah 8) (aH (.int 1))) (af (ah 9) (aj))) (st f)=p5 [a+1,b] from rfl];show((p5 (db (kvs.map λz=>(z.1,D.lst z.2)))).bind mz).bind _=_;rw[SG,i6,SG,SG];show p5 ((bZ _ (iK [a+1,b])).getD (.lst []))=_;rw[xi];have i2:=I.fn [a+1,b];cases k:vU kvs (iK [a+1,b]) with
  |none=>
   rw[k,Option.getD_none] at i2;rw[<-t,<-i2];rfl
  |some ds=>
   rw[k,Zh] at i2;rw[i2,<-t];rfl
 let A:=(j [a,b]).length
 let B:=(KU n r x (bo n) 129 [] (j [a,b])).length
 let C:=(KU n r x (bo n) 129 [] (j [a+1,b])).length
 have c:gv n r x S [a,b]+B+C=A:=c;have P:br 10 (ar cw (au dO (af (p7 (ah 5) (pF (af (ah 8) (af (ah 9) (aj))))) (aj))) (au (nF 1 dD) (af (p7 (ah 5) (pF (af (ah 8) (af (ah 9) (aj))))) (aj)))) (st f)=.nx (st (.v (.int (A-B)))):=by
  refine(aY ((ax (x:=nI A) (y:=nI B) ((cy (al (E f) rfl)).trans ?_) ((bf (ds:=[.lst ((h [a,b]).map nI)]) (al (E f) rfl) rfl).trans (w _))).trans (du _ _))).trans rfl;show p5 (D.int (((h [a,b]).map nI).length:Int))=_;simp[h,A]
 have K:br 10 (ar cw (ah 10) (au (nF 1 dD) (af (wC (ah 5) (pF (af (ar bG (ah 8) (aH (.int 1))) (af (ah 9) (aj)))) (cD (aj))) (aj)))) (st (.v (.int (A-B))))=.nx (st (.v (nI (gv n r x S [a,b])))):=by
  refine(aY ((ax (x:=.int (A-B)) (y:=nI C) rfl ((bf (ds:=[.lst ((h [a+1,b]).map nI)]) (al (N _) rfl) rfl).trans (w _))).trans (du _ _))).trans ?_
  show Out.nx (st (.v (.int ((A:Int) -B-C))))=_;rw[show((A:Int) -B-C)=(gv n r x S [a,b]:Nat) by grind]
 have g:bJ (ar FK (ah 10) (aH (.int 0))) (st (.v (nI (gv n r x S [a,b]))))=p5 (Oo (0<gv n r x S [a,b])):=by
  refine b9 ((ax (x:=nI (gv n r x S [a,b])) (y:=.int 0) rfl rfl).trans ?_);simp[uW]
 refine⟨.v (nI (gv n r x S [a,b])),?_⟩;unfold Hu;refine(ao P).trans ((ao K).trans ?_)
 by_cases z:0<gv n r x S [a,b]
 ·rw[v3 z] at g;rw[if_pos z];exact(kK g).trans ((vI (i:=7) (b0:=F) (bs:=F) (d:=u3 (gv n r x S) [a,b]) rfl (bj (al (cJ (ds:=[.int a,.int b,nI (gv n r x S [a,b])]) rfl (by simp)) rfl)) rfl (by grind)).trans rfl)
 ·rw[v7 z] at g;rw[if_neg z];refine(kl g).trans ?_
  simp[st,el]
theorem wU(I:HI (λs=>nI (IF n r x s)) (HK n r x S) (bo n) kvs)(h i j:Sl): ∀(T F:Cr) (l k c:Sl),(∀z∈T,∃s∈bo n,HK n r x S s=z)->F.length+T.length<=800->
 ∃f g d,cu (gT 2 (ij (gN 8) (ij (gN 9) (m9)))) Hu (T.map a7) (Lq n r x h i j kvs (F.map (u3 (gv n r x S))) l k c)=.nx (Lq n r x h i j kvs ((F++T.filter λz=>decide (0<gv n r x S z)).map (u3 (gv n r x S))) f g d)
 | [],F,l,k,c,_,_=>⟨l,k,c,by simp[cu]⟩
 |z::T,F,l,k,c,m,t=>by
  rw[SX] at t;obtain⟨s,o,p⟩:=m z (by simp);obtain⟨a,b,e⟩:=AX n (eM n S) r x s;obtain⟨u,q⟩:=ET R X H h2 h5 hx I h i j c (F:=F.map (u3 (gv n r x S))) (by grind) o e;have:z=[a,b]:=p.symm.trans e;subst this;obtain⟨f,g,d,w⟩:=wU I h i j T (F++if 0<gv n r x S [a,b] then [[a,b]] else []) (.v (.int a)) (.v (.int b)) u (λz hz=>m z (by simp[hz])) (by grind);refine⟨f,g,d,?_⟩;rw[SD];refine(bw (ρ1:=Lq n r x h i j kvs (F.map (u3 (gv n r x S))) (.v (.int a)) (.v (.int b)) c) rfl q).trans ?_
  rw[show(F.map (u3 (gv n r x S))++if 0<gv n r x S [a,b] then [u3 (gv n r x S) [a,b]] else [])=(F++if 0<gv n r x S [a,b] then [[a,b]] else []).map (u3 (gv n r x S)) by split<;>simp,w,Wt,VV];congr 4
  by_cases z:0<gv n r x S [a,b]
  ·rw[if_pos z,if_pos (v3 z)];rfl
  ·rw[if_neg z,if_neg (by simpa using z)];rfl
end
section
variable {n:Nat}{r x:List Nat}{S:Nat->Nat}(R:Ord n r)(X:Ord n x)(H:Sg n r x S)(h2:2<=n)(h5:n<=5)(hx: ∀c,c<n->r.getD c 0≠x.getD c 0)
include R X H h2 h5 hx
theorem Im:0<gv n r x S z↔ ∃s∈qZ n r x,HK n r x S s=z:=by
 simp
theorem BG(A:D): ∀(T P:Cr) (c f:Sl),bo n=P++T-> ∃b a,cu (gT 2 (ij (gN 3) (ij (gN 4) (m9)))) (jx 2 (nO (ah 4)) (ah 3)) (T.map λs=>D.tup [nI (pl (bo n) s),a7 s]) [.v A,.v (kD (bo n)),.ob (.dT (q9 (bo n) P)),c,f,.no,.no,.no,.no,.no,.no]=.nx [.v A,.v (kD (bo n)),.ob (.dT (q9 (bo n) (P++T))),b,a,.no,.no,.no,.no,.no,.no]
 | [],P,c,f,_=>⟨c,f,by simp[cu]⟩
 |s::T,P,c,f,e=>by
  have m:(bo n).length<=120:=by grind[eD]
  have g:=lf n h5;have h:s∉P:=λq=>by
   have g:(P++s::T).Nodup:=e▸g;exact(TX.mp g).2.2 s q s SM rfl
  have o:P.length<=120:=by
   have:=congrArg Ua e;grind[S5]
  have k:bZ (q9 (bo n) P) (iK s)=none:=by
   unfold bZ q9;rw[UZ,Yl];intro p i;obtain⟨t,l,rfl⟩:=SY.mp i;exact λq=>h (yI (of_decide_eq_true q)▸l)
  have st:jx 2 (nO (ah 4)) (ah 3) [.v A,.v (kD (bo n)),.ob (.dT (q9 (bo n) P)),.v (nI (pl (bo n) s)),.v (a7 s),.no,.no,.no,.no,.no,.no]=.nx [.v A,.v (kD (bo n)),.ob (.dT (q9 (bo n) (P++[s]))),.v (nI (pl (bo n) s)),.v (a7 s),.no,.no,.no,.no,.no,.no]:=by
   refine(pA (kvs:=q9 (bo n) P) (d:=nI (pl (bo n) s)) (ns:=s) rfl rfl (fx s) (by unfold q9;rw[SO];lia) k).trans ?_
   simp[q9]
  obtain⟨b,a,j⟩:=BG A T (P++[s]) (.v (nI (pl (bo n) s))) (.v (a7 s)) (by nofun);refine⟨b,a,?_⟩;rw[SD];refine(bw (ρ1:=[.v A,.v (kD (bo n)),.ob (.dT (q9 (bo n) P)),.v (nI (pl (bo n) s)),.v (a7 s),.no,.no,.no,.no,.no,.no]) rfl st).trans (j.trans ?_);simp
theorem IG: ∃L,Up L/\(∀z,z∈L↔0<gv n r x S z)/\gC [bI r x]=p5 (.lst (L.map (u3 (gv n r x S)))):=by
 have O:(bo n).length<=120:=by grind[eD]
 have w:=lf n h5;obtain⟨K,P⟩:=G0 R X h2 h5 hx;obtain⟨a,g,p⟩:=BG R X H h2 h5 hx (bI r x) (bo n) [] .no .no rfl;obtain⟨kvs,c,b,B,I⟩:=Bj R X H h2 h5 a (bo n) [] [] g .no (λ_ h=>h) ⟨λh=>rfl,SB _,nofun,nofun,[],rfl,V4,by simp⟩ (by show 0+_<=900;lia);rw[Wj] at I p;obtain⟨l,M,o,f⟩:=I.ky;have i:=sv (m:=eM n S) h5 R X o λz hz=>(f z).mp hz
 have G: ∀z∈aU aS l,∃s∈bo n,HK n r x S s=z:=λz hz=>(f z).mp (sy.mp hz)
 obtain⟨F,C,j,u⟩:=wU R X H h2 h5 hx I a c b (aU aS l) [] .no .no .no G (by rw[(a8 (lt:=aS) l).length_eq];show 0+_<=800;lia);rw[Wj] at u;have U:=ED o;refine⟨(aU aS l).filter λz=>decide (0<gv n r x S z),⟨U.1.filter _,U.2.filter _⟩,λz=>?_,?_⟩
 ·rw[Tg,vu];refine⟨λq=>q.2,λq=>⟨?_,q⟩⟩;obtain⟨s,y,rfl⟩:=(Im R X H h2 h5 hx).mp q;exact sy.mpr ((f _).mpr ⟨s,K s y,rfl⟩)
 ·apply aZ (kd:=.n) (n:=11) (t:=l9);unfold l9 nj;dsimp only;refine(ao (ρ':=[.v (bI r x),.v (kD (bo n)),.no,.no,.no,.no,.no,.no,.no,.no,.no]) ((aY (d:=kD (bo n)) ((bf (ds:=[nI n]) (al (R.len▸cS r _ _ rfl) rfl) rfl).trans ((Jo ⋯).trans (by rw[F5])))).trans rfl)).trans ?_
  refine(ao (ρ':=[.v (bI r x),.v (kD (bo n)),.ob (.dT (q9 (bo n) [])),.no,.no,.no,.no,.no,.no,.no,.no]) rfl).trans ?_
  refine(ao ((bY (ds:=(bo n).map λs=>D.tup [nI (pl (bo n) s),a7 s]) (bj (by unfold Ni;show p5 (jY ((bo n).map a7))=_;rw[MU w]))).trans p)).trans ?_
  refine(ao (ρ':=[.v (bI r x),.v (kD (bo n)),.ob (.dT (q9 (bo n) (bo n))),a,g,.ob (.dT []),.no,.no,.no,.no,.no]) rfl).trans ?_
  have J:Ht (ah 1) (au (nF 2 gj) (af (ah 0) (af (ah 1) (aj)))) (Ev n r x a g [] .no)=p5 ((bo n).map λs=>D.tup [a7 s,a7 (HK n r x S s)]):=by
   unfold Ht;rw[show au (nF 2 gj) (af (ah 0) (af (ah 1) (aj))) (Ev n r x a g [] .no)=p5 (kD ((bo n).map (HK n r x S))) from(bf (ds:=[bI r x,kD (bo n)]) rfl rfl).trans (Hl R X H h2 h5)];show p5 (uU ((bo n).map a7) (((bo n).map (HK n r x S)).map a7))=_;rw[MB]
  refine(ao (ρ':=Ev n r x a c kvs b) ((bY (bj J)).trans B)).trans ?_
  refine(ao (ρ':=[.v (bI r x),.v (kD (bo n)),.v (db (q9 (bo n) (bo n))),a,c,.ob (.dN kvs),b,.own [],.no,.no,.no]) rfl).trans ?_
  have E:NE (ah 5) (Lq n r x a c b kvs [] .no .no .no)=p5 (.lst ((aU aS l).map a7)):=by
   unfold NE;show((p5 (db (kvs.map λz=>(z.1,D.lst z.2)))).bind mz).bind _=_;have A: ∀k∈l,k≠[]:=λk N q=>by
    obtain⟨s,_,e⟩:=(f k).mp N;rw[q] at e;cases e
   rw[SG,i6,SG,EV _ l (by rw[S4];exact M),SG,if_pos ⟨i,A⟩]
  refine(ao (ρ':=Lq n r x a c b kvs (((aU aS l).filter λz=>decide (0<gv n r x S z)).map (u3 (gv n r x S))) F C j) ?_).trans rfl;exact(bY (bj (gp E))).trans u
theorem HB: ∃L,Up L/\(∀z,z∈L↔0<gv n r x S z)/\gX [bI r x]=p5 (.lst (L.map (u3 (gv n r x S)))):=by
 obtain⟨w,O⟩:=G0 R X h2 h5 hx;have y:=O0 R X h2 h5 hx
 let A:D:=db (pY (wD n r x).1)
 let B:D:=db (qW (wD n r x).2)
 have G:fU [A,B]=p5 (kD (qZ n r x)):=Gm (by
  have N:(bo n).length<=120:=by grind[eD]
  have:=(GD R X h2 h5 hx).ln
  grind)
 obtain⟨kvs,i,j,e,I⟩:=Bs R X H h2 h5 A B (qZ n r x) [] [] .no .no w .start (by show 0+_<=1000;lia);rw[Wj] at I;obtain⟨l,K,p,d⟩:=I.keys;have f: ∀z,z∈l↔0<gv n r x S z:=λz=>(d z).trans (by simp)
 have g:=sv (m:=eM n S) h5 R X p λz hz=>by
  obtain⟨s,u,e⟩:=SY.mp ((d z).mp hz);exact⟨s,w s u,e⟩
 refine⟨aU aS l,ED p,λz=>sy.trans (f z),?_⟩;apply aZ (kd:=.n) (n:=6) (t:=uA)
 unfold uA t4;dsimp only;refine(ao (ρ':=[.v (bI r x),.v A,.v B,.no,.no,.no]) (by
  unfold eF pu;rw[show au (nF 1 dA) (af (ah 0) (aj)) (mK 6 [bI r x])=p5 (.tup [A,B]) from(bf (ds:=[bI r x]) rfl rfl).trans y];rfl)).trans ?_
 refine(ao (ρ':=CZ r x A B [] .no .no) rfl).trans ?_
 refine(ao ((bY (ds:=(qZ n r x).map a7) (bj (gp ((bf (ds:=[A,B]) rfl rfl).trans G)))).trans e)).trans ?_
 refine ba ?_
 have F:GF 3 (CZ r x A B kvs i j)=p5 (.lst ((aU aS l).map a7)):=by
  unfold GF;show(p5 kvs).bind _=_;have E: ∀k∈l,k≠[]:=λk M q=>by
   obtain⟨s,_,e⟩:=SY.mp ((d k).mp M);rw[q] at e;cases e
  rw[SG,EV _ l K,SG,if_pos ⟨g,E⟩]
 refine dm (gp F) (by rw[SO,(a8 (lt:=aS) l).length_eq];lia) ?_
 refine cZ (h:=a7) (o:=u3 (gv n r x S)) _ λz hz=>?_
 have c:=(d z).mp (sy.mp hz);obtain⟨s,u,C⟩:=SY.mp c;obtain⟨a,b,e⟩:=AX n (eM n S) r x s;have:z=[a,b]:=C.symm.trans e;subst this;refine⟨CZ r x A B kvs i j++[.v (.int a),.v (.int b)],rfl,?_⟩;have J:zE 3 (cQ (af (ah 6) (af (ah 7) (aj)))) (CZ r x A B kvs i j++[.v (.int a),.v (.int b)])=p5 (nI (gv n r x S [a,b])):=by
  unfold zE;show(p5 kvs).bind _=_;rw[SG];show((p5 (a7 [a,b])).bind nX).bind _=_;rw[SG,fx,SG];exact I.val _ c
 exact cJ (ds:=[.int a,.int b,nI (gv n r x S [a,b])]) (al rfl (al rfl (al J rfl))) (by simp)
end
def rW(k:Nat):List Nat:=(Su 5).map λc=>(c+k) % 5
def xW(k t:Nat):List Nat:=(rW k).map λc=>(c+(2+t)) % 5
theorem Se: ∀t,t<2-> ∀k,k<5->(rW k).Perm (Su 5)/\(xW k t).Perm (Su 5)/\ ∀i,i<5->(xW k t).getD i 0≠(rW k).getD i 0:=by decide
theorem Eu {N:Nat}(B:Bag N a b)(F:N<=1000): ∃(r x:List Nat) (g b':Int),f8 (bc a b) []=p5 (bI r x,bc g b')/\Sq 5 r x/\Bag (N+2) g b':=by
 obtain⟨t,e,d,j,p,D,E⟩:=jd (m:=2) B ⋯ (by simp) (by simp);obtain⟨k,f,c,o,q,C,G⟩:=jd (m:=5) p ⋯ (by simp) (by simp);obtain⟨t,z,rfl⟩: ∃i:Nat,i<2/\t=i:=⟨t.toNat,by nofun,by grind⟩
 obtain⟨k,A,rfl⟩: ∃i:Nat,i<5/\k=i:=⟨k.toNat,by nofun,by grind⟩
 obtain⟨y,u,h⟩:=Se t z k A;refine⟨rW k,xW k t,f,c,?_,⟨⟨y⟩,⟨u⟩,h⟩,q⟩;refine MY (kd:=.s) (n:=4) (t:=iP) (ρ:=[.arg (bc f c),.v (.int (2+t)),.v (nI k),.v (.lst ((rW k).map nI))]) ?_ rfl;unfold iP;have w:fM 1 (oM bG (pu (aH (.int 2))) (aV 0 1 b8 (c8 (af (aH (.int 2)) (aj))))) (oY 4 (bc a b) [])=.nx [.arg (bc e d),.v (.int (2+t)),.no,.no]:=(f6 (BC (nK rfl) (cn (i:=0) (n:=1) (b0:=bc a b) (ds:=[.int 2]) rfl (bj rfl) rfl rfl j) (dW _ _))).trans rfl;have l:fM 2 (aV 0 1 b8 (c8 (af (aH (.int 5)) (aj)))) [.arg (bc e d),.v (.int (2+t)),.no,.no]=.nx [.arg (bc f c),.v (.int (2+t)),.v (nI k),.no]:=(f6 (cn (i:=0) (n:=1) (b0:=bc e d) (ds:=[.int 5]) rfl (bj rfl) rfl rfl o)).trans rfl;rw[ao w,ao l];rfl
def sz8:List Nat:=[2,3,3,4,4,4,5,5]
theorem MG: ∀i,i<8->2<=sz8.getD i 0/\sz8.getD i 0<=5:=by decide
section
variable {n:Nat}{r x:List Nat}(R:Ord n r)(X:Ord n x)(h2:2<=n)(h5:n<=5)(hx: ∀c,c<n->r.getD c 0≠x.getD c 0)
include R X h2 h5 hx
theorem Au(e:D)(f:List D)(kd:D): ∃ρ',(aF (br 4 (au (nF 1 gC) (af (ah 3) (aj))))
 (aF (dh 5 (au (nF 1 gX) (af (ah 3) (aj))))
 (aF (gm (xQ (lI (ir (E5 "list" (cR 5)))) (xQ (lI (ir (au yV (af (bT 1 (gu (cR 5)) (gN 6) (fG) (au (nF 1 cP) (af (ah 6) (aj)))) (aj))))) (bJ (ar uD (cR 5) (ah 4))))) (bX (aH (.bl Pa))) (el))
 (aF (cz (aV 5 0 M4 (c8 aj)))
 (bX (ar vL (au (nF 1 gX) (af (ah 3) (aj))) (ah 4))))))) [.v e,.own f,.v kd,.v (bI r x),.no,.no]=.rt (.bl S1) ρ':=by
 obtain⟨S,H⟩:=Ov R X;obtain⟨L,m,u,p⟩:=IG R X H h2 h5 hx;obtain⟨i,l,j,k⟩:=HB R X H h2 h5 hx;have:i=L:=Fg l m λz=>(j z).trans (u z).symm
 subst this
 let c:List D:=i.map (u3 (gv n r x S))
 have A:i.length<=120:=by
  obtain⟨B,w⟩:=G0 R X h2 h5 hx;have:=U7 l.2 (l₂:=(qZ n r x).map (HK n r x S)) λz hz=>jaH.mp ((j z).mp hz)
  rw[SO] at this;lia
 have q:br 4 (au (nF 1 gC) (af (ah 3) (aj))) [.v e,.own f,.v kd,.v (bI r x),.no,.no]=.nx [.v e,.own f,.v kd,.v (bI r x),.v (.lst c),.no]:=(aY (d:=.lst c) ((bf (ds:=[bI r x]) rfl rfl).trans p)).trans rfl;have t:dh 5 (au (nF 1 gX) (af (ah 3) (aj))) [.v e,.own f,.v kd,.v (bI r x),.v (.lst c),.no]=.nx [.v e,.own f,.v kd,.v (bI r x),.v (.lst c),.own c]:=(dS ((bf (ds:=[bI r x]) rfl rfl).trans k)).trans rfl;have s:au yV (af (bT 1 (gu (cR 5)) (gN 6) (fG) (au (nF 1 cP) (af (ah 6) (aj)))) (aj)) [.v e,.own f,.v kd,.v (bI r x),.v (.lst c),.own c]=p5 (.bl S1):=by
  refine(cy (ds:=[.lst ((i.map λ_=>S1).map D.bl)]) (al (dm (ds:=c) rfl (by show(i.map _).length<=1000;rw[SO];lia) ?_) rfl)).trans ((Jn _).trans (by simp));refine(cZ (h:=u3 (gv n r x S)) (o:=λ_=>.bl S1) i λz hz=>⟨[.v e,.own f,.v kd,.v (bI r x),.v (.lst c),.own c,.v (u3 (gv n r x S) z)],rfl,?_⟩).trans (by simp);rfl
 have g:xQ (lI (ir (E5 "list" (cR 5)))) (xQ (lI (ir (au yV (af (bT 1 (gu (cR 5)) (gN 6) (fG) (au (nF 1 cP) (af (ah 6) (aj)))) (aj))))) (bJ (ar uD (cR 5) (ah 4)))) [.v e,.own f,.v kd,.v (bI r x),.v (.lst c),.own c]=p5 false:=
  F9 (a:=Pa) (b:=Pa) (vC (b:=S1) (ui rfl)) (F9 (a:=Pa) (b:=Pa) (vC (b:=S1) (ui s)) (b9 ((ax (x:=.lst c) (y:=.lst c) rfl rfl).trans (K1 (GP _ _)))))
 rw[ao q,ao t,ao (zI g)];refine⟨[.v e,.own f,.v kd,.v (bI r x),.v (.lst c),.own []],(ao (ρ':=[.v e,.own f,.v kd,.v (bI r x),.v (.lst c),.own []]) rfl).trans (ba ?_)⟩;exact(ax (x:=.lst c) (y:=.lst c) ((bf (ds:=[bI r x]) rfl rfl).trans k) rfl).trans (IN (GP _ _))
end
theorem Mg(ns:List Int)(w:ns.length<=63):LP [j8 ns]=p5 (.bl S1):=by
 refine uK (kd:=.s) (n:=6) (t:=Ew) ?_
 unfold Ew;obtain⟨k,b0,E,B⟩:=MJ ns 0 (by simp) w;obtain⟨t,g,f,u,H,O,P⟩:=jd (m:=8) B (by simp) (by simp) (by simp);obtain⟨i,o,rfl⟩: ∃i:Nat,i<8/\t=i:=⟨t.toNat,by nofun,by grind⟩
 obtain⟨n,q,e,p⟩: ∃n:Nat,n=sz8.getD i 0/\2<=n/\n<=5:=⟨_,rfl,MG i o⟩
 obtain⟨r,x,d,b,A,Q,J⟩:=yR H (n:=n) e ⋯ (by simp);have L:dh 1 (au (nF 2 mI) (af (ah 0) (af (aH (.int 0)) (aj)))) (mK 6 [j8 ns])=.nx [.v (j8 ns),.own (bc k b0),.no,.no,.no,.no]:=(dS ((bf (ds:=[j8 ns,nI 0]) rfl rfl).trans E)).trans rfl;have z:fM 2 (aV 1 1 b8 (c8 (af (aH (.int 8)) (aj)))) [.v (j8 ns),.own (bc k b0),.no,.no,.no,.no]=.nx [.v (j8 ns),.own (bc g f),.v (nI i),.no,.no,.no]:=(f6 (cn (i:=1) (n:=1) (b0:=bc k b0) (ds:=[.int 8]) rfl (bj rfl) rfl rfl u)).trans rfl;have D:fM 3 (aV 1 1 gV (c8 (af (ar bt (cD (af (aH (.int 2)) (af (aH (.int 3)) (af (aH (.int 3)) (af (aH (.int 4)) (af (aH (.int 4)) (af (aH (.int 4)) (af (aH (.int 5)) (af (aH (.int 5)) (aj)))))))))) (ah 2)) (aj)))) [.v (j8 ns),.own (bc g f),.v (nI i),.no,.no,.no]=.nx [.v (j8 ns),.own (bc d b),.v (nI i),.v (bI r x),.no,.no]:=(f6 (cn (i:=1) (n:=1) (b0:=bc g f) (ds:=[nI n]) rfl (bj (al ((ax (x:=.lst (sz8.map nI)) (y:=nI i) rfl rfl).trans (q▸tf (r:=sz8) o)) rfl)) rfl rfl A)).trans rfl;rw[ao L,ao z,ao D];have a:bJ (ar vL (ah 2) (aH (.int 7))) [.v (j8 ns),.own (bc d b),.v (nI i),.v (bI r x),.no,.no]=p5 (Oo (i=7)):=b9 ((ax (x:=nI i) (y:=nI 7) rfl rfl).trans (by simp[jP,eZ,jT]))
 by_cases l:i=7
 ·rw[v3 l] at a;have G:n=5:=by rw[q,l];rfl
  obtain⟨C,I,K,N,F,h,R⟩:=Eu J (by grind);have M:gm (bJ (ar vL (ah 2) (aH (.int 7)))) (fM 3 (aV 1 0 f8 (c8 (aj)))) (el) [.v (j8 ns),.own (bc d b),.v (nI i),.v (bI r x),.no,.no]=.nx [.v (j8 ns),.own (bc K N),.v (nI i),.v (bI C I),.no,.no]:=(kK a).trans ((f6 (cn (i:=1) (n:=0) (b0:=bc d b) (ds:=[]) rfl (bj rfl) rfl rfl F)).trans rfl);rw[ao M];subst G;exact Au h.hr h.hx e p (λc j=>(h.ne c j).symm) _ _ _
 ·rw[v7 l] at a;rw[ao (zI a)];exact Au Q.hr Q.hx e p (λc j=>(Q.ne c j).symm) _ _ _
theorem df_of {K:SA}{h:Heap}(X:K.In h)(G:h.Ns UC mg){st:Stmt}{m:List Str}{n:Sw}{o j:Option Addr}{i:Array (Option Sw)}{kV e g d ct:Sw}(a:W.nsIn K UC x=p5 (p5 (.ref f)))
 (l:K.lookup f=p5 ⟨n,o,.func (Zn x x (f9 st) (c6 st) (av st) .none kV e g j d ct),i⟩) (c:jaX K d x=S1) (k:Yq K (.ref f)=S1)
 (b: ∀(kV e g:Sw) (j:Option Addr) (d ct:Sw) (us:List Sw),us.length=m.length->bindArgs (Zn x x (f9 st) (c6 st) (av st) .none kV e g j d ct) ⟨us,[]⟩=pure (m.zip us)):Df K mg x st m:=
 ⟨_,_,zo l c k,W.mg_of X G a,(zo l c k).binds b⟩
set_option maxHeartbeats 4000000
theorem all_mk {L:jeB}{K:SA}{h:Heap}{o i:Option Addr}{m:Array (Option Sw)}{n kV g f b ct:Sw}(X:K.In h)(G:h.Ns UC mg)(d:mg "law"=p5 (.ref fb))
 (B:Bt K mg)
 (a:W.nsIn K UC "law"=p5 (p5 (.ref fa))) (l:K.lookup fa=p5 ⟨n,o,.func (Zn "law" "law" (f9 ka) (c6 ka) (av ka) .none kV g f i b ct),m⟩) (c:jaX K b "law"=S1) (k:Yq K (.ref fa)=S1):
 ∃j:Vu,(∀(s:Sx) (v:Sw),jaW s j ⟨[v],[]⟩ [("_law_script",v)])/\ ∀base:Heap,K.In base->base.Ns UC mg->j3 L.prog w K mg base vV 10 fb j ["_law_script"] (Bo K):=by
 have e:=d.symm.trans (W.mg_of X G a);cases e;have F:=zo (st:=ka) l c k;refine⟨Zn "law" "law" (f9 ka) (c6 ka) (av ka) .none kV g f i b ct,λs v=>.of_eq rfl,λbase _ _=>?_⟩;exact Nt (NG (P:=L.prog) (w:=w) (base:=base) B F) Mg
end
end Lake
namespace PySem.W.Fast
theorem tw689682905625576480:True:=⟨⟩
theorem tw2780744627769023564:True:=⟨⟩
theorem tw936060486681878932:True:=⟨⟩
theorem tw12151988826709068133:True:=⟨⟩
theorem tw14934096888229061704:True:=⟨⟩
theorem tw172761715744977239:True:=⟨⟩
theorem tw14155811430476563943:True:=⟨⟩
theorem tw13855691307459937690:True:=⟨⟩
theorem tw2213858350939677920:True:=⟨⟩
theorem tw16418574102081776393:True:=⟨⟩
theorem tw17197603799742615339:True:=⟨⟩
theorem tw5159252969841595413:True:=⟨⟩
theorem tw13157701764030625887:True:=⟨⟩
theorem tw3828129228550819944:True:=⟨⟩
theorem tw9382766954892917924:True:=⟨⟩
theorem tw15918099121501975394:True:=⟨⟩
theorem tw12611559034583488504:True:=⟨⟩
theorem tw419749392705290933:True:=⟨⟩
theorem tw7495473402973142837:True:=⟨⟩
theorem tw16505742939738550604:True:=⟨⟩
theorem tw2614434735244774302:True:=⟨⟩
theorem tw4768268251141275431:True:=⟨⟩
theorem tw15504162879379904803:True:=⟨⟩
theorem tw14016467119406113563:True:=⟨⟩
theorem tw4470310831404350:True:=⟨⟩
theorem tw17003348190586688310:True:=⟨⟩
theorem tw3722576564537416319:True:=⟨⟩
theorem tw10912017690295577054:True:=⟨⟩
theorem tw16411807350004576643:True:=⟨⟩
theorem tw17773664533584502423:True:=⟨⟩
theorem tw10091293090329561156:True:=⟨⟩
theorem tw12785029706464785155:True:=⟨⟩
theorem tw17191555793800243422:True:=⟨⟩
theorem tw1665093003517957555:True:=⟨⟩
theorem tw7602875918057633126:True:=⟨⟩
theorem tw4601396515101986311:True:=⟨⟩
theorem tw11219248602950398763:True:=⟨⟩
theorem tw17538796501260883500:True:=⟨⟩
theorem tw8444054487629321296:True:=⟨⟩
theorem tw17901124951092327605:True:=⟨⟩
theorem tw1263589399290601769:True:=⟨⟩
theorem tw6498429569328796123:True:=⟨⟩
theorem tw10714514383771110220:True:=⟨⟩
theorem tw1352417132344337397:True:=⟨⟩
theorem tw11196621175605866773:True:=⟨⟩
theorem tw9763432280470149414:True:=⟨⟩
theorem tw9291298279655192951:True:=⟨⟩
theorem tw1908505646497382932:True:=⟨⟩
theorem tw2911221105314694716:True:=⟨⟩
theorem tw4709545300672142319:True:=⟨⟩
theorem tw7575265739662477108:True:=⟨⟩
theorem tw13374193056220399906:True:=⟨⟩
theorem tw5156104888016269918:True:=⟨⟩
theorem tw13989101046615807120:True:=⟨⟩
theorem tw11264244969306205763:True:=⟨⟩
theorem tw14514090593281903982:True:=⟨⟩
theorem tw13331607045818271340:True:=⟨⟩
theorem tw12182462516861126997:True:=⟨⟩
theorem tw8790699467341118270:True:=⟨⟩
theorem tw17554103156971513961:True:=⟨⟩
theorem tw2256438938385897741:True:=⟨⟩
theorem tw6077983928823444139:True:=⟨⟩
theorem tw7251601433216505490:True:=⟨⟩
theorem tw5972715459762580008:True:=⟨⟩
theorem tw3012552052919548495:True:=⟨⟩
theorem tw12337885853847228410:True:=⟨⟩
theorem tw8673149390751922134:True:=⟨⟩
theorem tw14294549081159864861:True:=⟨⟩
theorem tw4131542415828059721:True:=⟨⟩
theorem tw5637268853490126416:True:=⟨⟩
theorem tw11627364691535390414:True:=⟨⟩
theorem tw5359549344589776710:True:=⟨⟩
theorem tw8208357777918596717:True:=⟨⟩
theorem tw14514937285909757743:True:=⟨⟩
theorem tw17896266608776752532:True:=⟨⟩
theorem tw16006121079614309733:True:=⟨⟩
theorem tw12014103315670599579:True:=⟨⟩
theorem tw15189208648221166254:True:=⟨⟩
theorem tw18153655342091341972:True:=⟨⟩
theorem tw11849865167521532199:True:=⟨⟩
theorem tw5519069916036045064:True:=⟨⟩
theorem tw8504649504002412558:True:=⟨⟩
theorem tw16764861034434509484:True:=⟨⟩
theorem tw8557789898237929771:True:=⟨⟩
theorem tw16927193112790544985:True:=⟨⟩
theorem tw18021866944635862282:True:=⟨⟩
theorem tw6342258546229733727:True:=⟨⟩
theorem tw3407838433769790337:True:=⟨⟩
theorem tw6766324153915330733:True:=⟨⟩
theorem tw14563892772954886275:True:=⟨⟩
theorem tw7309365296012992577:True:=⟨⟩
theorem tw15930516409265022611:True:=⟨⟩
theorem tw14287843628409186637:True:=⟨⟩
theorem tw8954653182944297286:True:=⟨⟩
theorem tw9210538320886318985:True:=⟨⟩
theorem tw9472775337747876628:True:=⟨⟩
theorem tw6951225958229951181:True:=⟨⟩
theorem tw499513304658475261:True:=⟨⟩
theorem tw12476722690659938186:True:=⟨⟩
theorem tw2367097982422264994:True:=⟨⟩
theorem tw16759930548736149011:True:=⟨⟩
theorem tw10310720772059481840:True:=⟨⟩
theorem tw18248573706306825013:True:=⟨⟩
theorem tw10247851059728751541:True:=⟨⟩
theorem tw7143463434816162754:True:=⟨⟩
theorem tw339193637497332131:True:=⟨⟩
theorem tw3443351816172982092:True:=⟨⟩
theorem tw7200485436122129584:True:=⟨⟩
theorem tw61599626329860535:True:=⟨⟩
theorem tw11616875533871908186:True:=⟨⟩
theorem tw15632625534606764638:True:=⟨⟩
theorem tw4997850786494882856:True:=⟨⟩
theorem tw918998198555723376:True:=⟨⟩
theorem tw1790562257222349380:True:=⟨⟩
theorem tw13084519076783564949:True:=⟨⟩
theorem tw5598954106565639194:True:=⟨⟩
theorem tw9683896892120862724:True:=⟨⟩
theorem tw4026399451600156865:True:=⟨⟩
theorem tw16370567365723494652:True:=⟨⟩
theorem tw3988915407415810377:True:=⟨⟩
theorem tw5210010125637131633:True:=⟨⟩
theorem tw9693574494040157132:True:=⟨⟩
theorem tw48863744326518617:True:=⟨⟩
theorem tw12100151230811681987:True:=⟨⟩
theorem tw11015870545226516010:True:=⟨⟩
theorem tw1402703375011573386:True:=⟨⟩
theorem tw9365779183522323447:True:=⟨⟩
theorem tw16187257830247790117:True:=⟨⟩
theorem tw17981143425720483219:True:=⟨⟩
theorem tw15785446377905386880:True:=⟨⟩
theorem tw16635357364956571031:True:=⟨⟩
theorem tw6044285971661388440:True:=⟨⟩
theorem tw2825525834163141574:True:=⟨⟩
theorem tw16763059597036865715:True:=⟨⟩
theorem tw3448945076513611390:True:=⟨⟩
theorem tw10598375423257301448:True:=⟨⟩
theorem tw17556182574041745117:True:=⟨⟩
theorem tw9941920219558484440:True:=⟨⟩
theorem tw15818779923389608696:True:=⟨⟩
theorem tw18130634694913728418:True:=⟨⟩
theorem tw6155888194420184787:True:=⟨⟩
theorem tw18375017119611109086:True:=⟨⟩
theorem tw6608652595431985037:True:=⟨⟩
theorem tw15321584928389673483:True:=⟨⟩
theorem tw2058636719923655440:True:=⟨⟩
theorem tw5902294798450729331:True:=⟨⟩
theorem tw16209085870798441826:True:=⟨⟩
theorem tw14792458452902909319:True:=⟨⟩
theorem tw5987111228843840951:True:=⟨⟩
theorem tw12431285254752569564:True:=⟨⟩
theorem tw5975127490819030260:True:=⟨⟩
theorem tw17907338773457662897:True:=⟨⟩
theorem tw7041694627148884125:True:=⟨⟩
theorem tw14918900097479812757:True:=⟨⟩
theorem tw16661591959621280637:True:=⟨⟩
theorem tw3493598140614954612:True:=⟨⟩
theorem tw5254711533229003096:True:=⟨⟩
theorem tw10531228671392694366:True:=⟨⟩
theorem tw12430008624617264067:True:=⟨⟩
theorem tw12115951962781777884:True:=⟨⟩
theorem tw15010600785771990951:True:=⟨⟩
end PySem.W.Fast
open PySem PySem.W PyProof.Rows
set_option maxRecDepth 100000 in
set_option maxHeartbeats 0 in
theorem PySem.Challenge.cw_rookborders_k37_tables_by_ranks_holds : PySem.Challenge.rw_rookborders_k37_tables_by_ranks.Holds := by
 w_on;o_law;k_head;(case hw=>w_witness2)
 k_fill
 refine Lake.walkD (l:=YA) (k:=10) (x:="_law_script") rfl rfl ⟨rfl,by decide,by decide⟩ (λw h Y=>W.kIn_of Y) ?F
 case F=>
  intro w mg fa h KX G hmg;refine' Lake.all_mk KX G hmg (Lake.Bt.mk ?_ ?_ ?_ ?_ ?_ ?_ ?_ ?_ ?_ ?_ ?_ ?_ ?_ ?_ ?_ ?_ ?_ ?_ ?_ ?_ ?_ ?_ ?_ ?_ ?_ ?_ ?_ ?_ ?_ ?_ ?_ ?_ ?_ ?_ ?_ ?_ ?_ ?_ ?_ ?_ ?_ ?_ ?_ ?_ ?_ ?_ ?_ ?_ ?_ ?_ ?_ ?_ ?_ ?_ ?_) ?_ ?_ ?_ ?_
  all_goals first
   |(refine' Lake.df_of KX G ?_ ?_ ?_ ?_ λ_ _ _ _ _ _ us hl=>Lake.ar1 us hl λ_=>rfl)<;>try k_is
   |(refine' Lake.df_of KX G ?_ ?_ ?_ ?_ λ_ _ _ _ _ _ us hl=>Lake.ar2 us hl λ_ _=>rfl)<;>try k_is
   |(refine' Lake.df_of KX G ?_ ?_ ?_ ?_ λ_ _ _ _ _ _ us hl=>Lake.ar3 us hl λ_ _ _=>rfl)<;>try k_is
   |(refine' Lake.df_of KX G ?_ ?_ ?_ ?_ λ_ _ _ _ _ _ us hl=>Lake.ar4 us hl λ_ _ _ _=>rfl)<;>try k_is
   |(refine' W.mg_none_of KX G ?_)<;>try k_is
   |try k_is
