/- othersZero at the kinds 1 and 2. -/
import Derived.Test.YtccoanknofhmaaaGreatGq04
import Derived.Deep.DeepCutAuto
namespace Go.Proofs.YtccoanknofhmaaaGreat
open Go.Value renaming int → U, slice → Sl
open Go.IntKind renaming i64 → i6
set_option maxRecDepth 100000
set_option maxHeartbeats 16000000
open Go.ChangeShapes Go.WideShapes Go.ChangeAt Go.RowKit
theorem oz_1_0 (a b m kh kw sh sw tp lf bt rt sm ss um us z p lo hi:Int) (wa:Option Addr) (lw lb wc:Nat) (ba:Option Addr) (bc:Nat) (W:World) (hn:¬ (b=0)) :
  Calls Tryz.prog 100 #[.agg #[U i6 1,U i6 a,U i6 b,U i6 m,U i6 kh,U i6 kw,U i6 sh,U i6 sw,U i6 tp,U i6 lf,U i6 bt,U i6 rt,Sl wa lw wc,Sl ba lb bc,U i6 sm,U i6 ss,U i6 um,U i6 us,U i6 z,U i6 p,U i6 lo,U i6 hi]] W fun e w'=>e=.returned (.bool false)∧Below W.heap.size W w':=by
 have q1:(b == 0)=false:=by simp;omega
 go_enter Tryz.func100,Tryz.ntmps100
 go_wp2_with fail
 refine (uses_1 _).mono ?_
 rintro e w1 ⟨rfl,hb'⟩
 have s1:=(St.start W).new.call hb'
 clear hb'
 try simp only [World.size_setCell] at s1
 try simp only [World.size_alloc] at s1
 obtain⟨c1,f1,zw1_1,-⟩:=s1.rules
 go_upto_region 2 with fail
 have s2:=s1.new (c:=#[.bool false,.bool true,.bool false,.bool false,.bool true,.bool true,.bool false,.bool true,.bool false]) (t:=152)
 clear c1 f1
 obtain⟨c1,g1,c2,g2,-⟩:=rulesQ_st s2
 have hne:=Nonempty.intro (Wd.mk _ s2)
 refine region_held s2 (by kernel_rfl) (lex_of ozLex (by kernel_rfl)) ?_
 simp only [List.append]
 repeat (go_big_quiet_step ((go_at_call 108;exact held_of (nopad_any _ _ _ _ _ _ _ _ _))))
 refine wpQuiet_nil ?_
 intro _ hw'
 obtain⟨nq,rfl⟩:=hw'
 go_wp2
 go_ret
 exact⟨rfl,nq.h.below⟩
theorem oz_1_1 (a m kh kw sh sw tp lf bt rt sm ss um us z p lo hi:Int) (wa:Option Addr) (lw lb wc:Nat) (ba:Option Addr) (bc:Nat) (W:World) (hn:¬ (kh=0∧kw=0∧sh=0∧sw=0∧tp=0∧lf=0∧bt=0∧rt=0)) :
  Calls Tryz.prog 100 #[.agg #[U i6 1,U i6 a,U i6 0,U i6 m,U i6 kh,U i6 kw,U i6 sh,U i6 sw,U i6 tp,U i6 lf,U i6 bt,U i6 rt,Sl wa lw wc,Sl ba lb bc,U i6 sm,U i6 ss,U i6 um,U i6 us,U i6 z,U i6 p,U i6 lo,U i6 hi]] W fun e w'=>e=.returned (.bool false)∧Below W.heap.size W w':=by
 have q1:=eq8 36 rfl kh kw sh sw tp lf bt rt 0 0 0 0 0 0 0 0 false (decide_eq_false (by omega))
 clear hn
 go_enter Tryz.func100,Tryz.ntmps100
 go_wp2_with fail
 refine (uses_1 _).mono ?_
 rintro e w1 ⟨rfl,hb'⟩
 have s1:=(St.start W).new.call hb'
 clear hb'
 try simp only [World.size_setCell] at s1
 try simp only [World.size_alloc] at s1
 obtain⟨c1,f1,zw1_1,-⟩:=s1.rules
 go_upto_region 2 with fail
 have s2:=s1.new (c:=#[.bool false,.bool true,.bool false,.bool false,.bool true,.bool true,.bool false,.bool true,.bool false]) (t:=152)
 clear c1 f1
 obtain⟨c1,g1,c2,g2,-⟩:=rulesQ_st s2
 have hne:=Nonempty.intro (Wd.mk _ s2)
 refine region_held s2 (by kernel_rfl) (lex_of ozLex (by kernel_rfl)) ?_
 simp only [List.append]
 repeat (go_big_quiet_step ((go_at_call 108;exact held_of (nopad_any _ _ _ _ _ _ _ _ _))))
 refine wpQuiet_nil ?_
 intro _ hw'
 obtain⟨nq,rfl⟩:=hw'
 go_wp2
 go_ret
 exact⟨rfl,nq.h.below⟩
theorem oz_1_2 (a m sm ss um us z p lo hi:Int) (wa:Option Addr) (lw lb wc:Nat) (ba:Option Addr) (bc:Nat) (W:World) (hn:¬ (um=0∧us=0)) :
  Calls Tryz.prog 100 #[.agg #[U i6 1,U i6 a,U i6 0,U i6 m,U i6 0,U i6 0,U i6 0,U i6 0,U i6 0,U i6 0,U i6 0,U i6 0,Sl wa lw wc,Sl ba lb bc,U i6 sm,U i6 ss,U i6 um,U i6 us,U i6 z,U i6 p,U i6 lo,U i6 hi]] W fun e w'=>e=.returned (.bool false)∧Below W.heap.size W w':=by
 have q1:=eq2 40 rfl um us 0 0 false (decide_eq_false (by omega))
 clear hn
 go_enter Tryz.func100,Tryz.ntmps100
 go_wp2_with fail
 refine (uses_1 _).mono ?_
 rintro e w1 ⟨rfl,hb'⟩
 have s1:=(St.start W).new.call hb'
 clear hb'
 try simp only [World.size_setCell] at s1
 try simp only [World.size_alloc] at s1
 obtain⟨c1,f1,zw1_1,-⟩:=s1.rules
 go_upto_region 2 with fail
 have s2:=s1.new (c:=#[.bool false,.bool true,.bool false,.bool false,.bool true,.bool true,.bool false,.bool true,.bool false]) (t:=152)
 clear c1 f1
 obtain⟨c1,g1,c2,g2,-⟩:=rulesQ_st s2
 have hne:=Nonempty.intro (Wd.mk _ s2)
 refine region_held s2 (by kernel_rfl) (lex_of ozLex (by kernel_rfl)) ?_
 simp only [List.append]
 repeat (go_big_quiet_step ((go_at_call 108;exact held_of (nopad_any _ _ _ _ _ _ _ _ _))))
 refine wpQuiet_nil ?_
 intro _ hw'
 obtain⟨nq,rfl⟩:=hw'
 go_wp2
 go_ret
 exact⟨rfl,nq.h.below⟩
theorem oz_1_3 (a m sm ss z p lo hi:Int) (wa:Option Addr) (lw lb wc:Nat) (ba:Option Addr) (bc:Nat) (W:World) (hn:¬ (p=0)) :
  Calls Tryz.prog 100 #[.agg #[U i6 1,U i6 a,U i6 0,U i6 m,U i6 0,U i6 0,U i6 0,U i6 0,U i6 0,U i6 0,U i6 0,U i6 0,Sl wa lw wc,Sl ba lb bc,U i6 sm,U i6 ss,U i6 0,U i6 0,U i6 z,U i6 p,U i6 lo,U i6 hi]] W fun e w'=>e=.returned (.bool false)∧Below W.heap.size W w':=by
 have q1:(p == 0)=false:=by simp;omega
 go_enter Tryz.func100,Tryz.ntmps100
 go_wp2_with fail
 refine (uses_1 _).mono ?_
 rintro e w1 ⟨rfl,hb'⟩
 have s1:=(St.start W).new.call hb'
 clear hb'
 try simp only [World.size_setCell] at s1
 try simp only [World.size_alloc] at s1
 obtain⟨c1,f1,zw1_1,-⟩:=s1.rules
 go_upto_region 2 with fail
 have s2:=s1.new (c:=#[.bool false,.bool true,.bool false,.bool false,.bool true,.bool true,.bool false,.bool true,.bool false]) (t:=152)
 clear c1 f1
 obtain⟨c1,g1,c2,g2,-⟩:=rulesQ_st s2
 have hne:=Nonempty.intro (Wd.mk _ s2)
 refine region_held s2 (by kernel_rfl) (lex_of ozLex (by kernel_rfl)) ?_
 simp only [List.append]
 repeat (go_big_quiet_step ((go_at_call 108;exact held_of (nopad_any _ _ _ _ _ _ _ _ _))))
 refine wpQuiet_nil ?_
 intro _ hw'
 obtain⟨nq,rfl⟩:=hw'
 go_wp2
 go_ret
 exact⟨rfl,nq.h.below⟩
theorem oz_1_4 (a m sm ss z lo hi:Int) (wa:Option Addr) (lw lb wc:Nat) (ba:Option Addr) (bc:Nat) (W:World)  :
  Calls Tryz.prog 100 #[.agg #[U i6 1,U i6 a,U i6 0,U i6 m,U i6 0,U i6 0,U i6 0,U i6 0,U i6 0,U i6 0,U i6 0,U i6 0,Sl wa lw wc,Sl ba lb bc,U i6 sm,U i6 ss,U i6 0,U i6 0,U i6 z,U i6 0,U i6 lo,U i6 hi]] W fun e w'=>e=.returned (.bool true)∧Below W.heap.size W w':=by
 go_enter Tryz.func100,Tryz.ntmps100
 go_wp2_with fail
 refine (uses_1 _).mono ?_
 rintro e w1 ⟨rfl,hb'⟩
 have s1:=(St.start W).new.call hb'
 clear hb'
 try simp only [World.size_setCell] at s1
 try simp only [World.size_alloc] at s1
 obtain⟨c1,f1,zw1_1,-⟩:=s1.rules
 go_upto_region 2 with fail
 have s2:=s1.new (c:=#[.bool false,.bool true,.bool false,.bool false,.bool true,.bool true,.bool false,.bool true,.bool false]) (t:=152)
 clear c1 f1
 obtain⟨c1,g1,c2,g2,-⟩:=rulesQ_st s2
 have hne:=Nonempty.intro (Wd.mk _ s2)
 refine region_held s2 (by kernel_rfl) (lex_of ozLex (by kernel_rfl)) ?_
 simp only [List.append]
 repeat (go_big_quiet_step ((go_at_call 108;exact held_of (nopad_any _ _ _ _ _ _ _ _ _))))
 refine wpQuiet_nil ?_
 intro _ hw'
 obtain⟨nq,rfl⟩:=hw'
 go_wp2
 go_ret
 exact⟨rfl,nq.h.below⟩
theorem oz_2_0 (a b m kh kw sh sw tp lf bt rt sm ss um us z p lo hi:Int) (wa:Option Addr) (lw lb wc:Nat) (ba:Option Addr) (bc:Nat) (W:World) (hn:¬ (b=0)) :
  Calls Tryz.prog 100 #[.agg #[U i6 2,U i6 a,U i6 b,U i6 m,U i6 kh,U i6 kw,U i6 sh,U i6 sw,U i6 tp,U i6 lf,U i6 bt,U i6 rt,Sl wa lw wc,Sl ba lb bc,U i6 sm,U i6 ss,U i6 um,U i6 us,U i6 z,U i6 p,U i6 lo,U i6 hi]] W fun e w'=>e=.returned (.bool false)∧Below W.heap.size W w':=by
 have q1:(b == 0)=false:=by simp;omega
 go_enter Tryz.func100,Tryz.ntmps100
 go_wp2_with fail
 refine (uses_2 _).mono ?_
 rintro e w1 ⟨rfl,hb'⟩
 have s1:=(St.start W).new.call hb'
 clear hb'
 try simp only [World.size_setCell] at s1
 try simp only [World.size_alloc] at s1
 obtain⟨c1,f1,zw1_1,-⟩:=s1.rules
 go_upto_region 2 with fail
 have s2:=s1.new (c:=#[.bool false,.bool true,.bool true,.bool true,.bool true,.bool true,.bool false,.bool true,.bool true]) (t:=152)
 clear c1 f1
 obtain⟨c1,g1,c2,g2,-⟩:=rulesQ_st s2
 have hne:=Nonempty.intro (Wd.mk _ s2)
 refine region_held s2 (by kernel_rfl) (lex_of ozLex (by kernel_rfl)) ?_
 simp only [List.append]
 repeat (go_big_quiet_step ((go_at_call 108;exact held_of (nopad_any _ _ _ _ _ _ _ _ _))))
 refine wpQuiet_nil ?_
 intro _ hw'
 obtain⟨nq,rfl⟩:=hw'
 go_wp2
 go_ret
 exact⟨rfl,nq.h.below⟩
theorem oz_2_1 (a m kh kw sh sw tp lf bt rt sm ss um us z p lo hi:Int) (wa:Option Addr) (lw lb wc:Nat) (ba:Option Addr) (bc:Nat) (W:World) (hn:¬ (um=0∧us=0)) :
  Calls Tryz.prog 100 #[.agg #[U i6 2,U i6 a,U i6 0,U i6 m,U i6 kh,U i6 kw,U i6 sh,U i6 sw,U i6 tp,U i6 lf,U i6 bt,U i6 rt,Sl wa lw wc,Sl ba lb bc,U i6 sm,U i6 ss,U i6 um,U i6 us,U i6 z,U i6 p,U i6 lo,U i6 hi]] W fun e w'=>e=.returned (.bool false)∧Below W.heap.size W w':=by
 have q1:=eq2 40 rfl um us 0 0 false (decide_eq_false (by omega))
 clear hn
 go_enter Tryz.func100,Tryz.ntmps100
 go_wp2_with fail
 refine (uses_2 _).mono ?_
 rintro e w1 ⟨rfl,hb'⟩
 have s1:=(St.start W).new.call hb'
 clear hb'
 try simp only [World.size_setCell] at s1
 try simp only [World.size_alloc] at s1
 obtain⟨c1,f1,zw1_1,-⟩:=s1.rules
 go_upto_region 2 with fail
 have s2:=s1.new (c:=#[.bool false,.bool true,.bool true,.bool true,.bool true,.bool true,.bool false,.bool true,.bool true]) (t:=152)
 clear c1 f1
 obtain⟨c1,g1,c2,g2,-⟩:=rulesQ_st s2
 have hne:=Nonempty.intro (Wd.mk _ s2)
 refine region_held s2 (by kernel_rfl) (lex_of ozLex (by kernel_rfl)) ?_
 simp only [List.append]
 repeat (go_big_quiet_step ((go_at_call 108;exact held_of (nopad_any _ _ _ _ _ _ _ _ _))))
 refine wpQuiet_nil ?_
 intro _ hw'
 obtain⟨nq,rfl⟩:=hw'
 go_wp2
 go_ret
 exact⟨rfl,nq.h.below⟩
theorem oz_2_2 (a m kh kw sh sw tp lf bt rt sm ss z p lo hi:Int) (wa:Option Addr) (lw lb wc:Nat) (ba:Option Addr) (bc:Nat) (W:World)  :
  Calls Tryz.prog 100 #[.agg #[U i6 2,U i6 a,U i6 0,U i6 m,U i6 kh,U i6 kw,U i6 sh,U i6 sw,U i6 tp,U i6 lf,U i6 bt,U i6 rt,Sl wa lw wc,Sl ba lb bc,U i6 sm,U i6 ss,U i6 0,U i6 0,U i6 z,U i6 p,U i6 lo,U i6 hi]] W fun e w'=>e=.returned (.bool true)∧Below W.heap.size W w':=by
 go_enter Tryz.func100,Tryz.ntmps100
 go_wp2_with fail
 refine (uses_2 _).mono ?_
 rintro e w1 ⟨rfl,hb'⟩
 have s1:=(St.start W).new.call hb'
 clear hb'
 try simp only [World.size_setCell] at s1
 try simp only [World.size_alloc] at s1
 obtain⟨c1,f1,zw1_1,-⟩:=s1.rules
 go_upto_region 2 with fail
 have s2:=s1.new (c:=#[.bool false,.bool true,.bool true,.bool true,.bool true,.bool true,.bool false,.bool true,.bool true]) (t:=152)
 clear c1 f1
 obtain⟨c1,g1,c2,g2,-⟩:=rulesQ_st s2
 have hne:=Nonempty.intro (Wd.mk _ s2)
 refine region_held s2 (by kernel_rfl) (lex_of ozLex (by kernel_rfl)) ?_
 simp only [List.append]
 repeat (go_big_quiet_step ((go_at_call 108;exact held_of (nopad_any _ _ _ _ _ _ _ _ _))))
 refine wpQuiet_nil ?_
 intro _ hw'
 obtain⟨nq,rfl⟩:=hw'
 go_wp2
 go_ret
 exact⟨rfl,nq.h.below⟩
end Go.Proofs.YtccoanknofhmaaaGreat
