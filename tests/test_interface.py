"""[1] and the interface: each name stands in its module, with its arguments, and is defined in its file."""

import ast
import importlib
import inspect
import pathlib
import unittest

from timedoors.play import Play

PACKAGE = pathlib.Path(__file__).resolve().parent.parent / "timedoors"
INTERFACE = {
    "errors": (
        "DoorError; InvalidNumber; InvalidRoom; InvalidLights; InvalidLevel; InvalidPresses; InvalidHistory; "
        "InvalidRuns; InvalidTable; InvalidLetters; InvalidHouse; InvalidWalk; InvalidWalks; InvalidLayers; "
        "InvalidText; InvalidDeed; Unlike; TooMany; NothingToUndo; NothingToRedo"),
    "levels": (
        "is_level(value); is_door(rooms, value); are_presses(level, value); are_runs(level, value); "
        "are_endless(level, value); are_letters(level, value); right_rooms(level); left_rooms(level); "
        "both_pressed(level, presses, more); spread_out(level, runs); how_many_ticks(level, runs); "
        "plain_endless(level, endless); pressed_at(level, endless, tick)"),
    "texts": (
        "text_of_level(level); level_of_text(text); text_of_presses(level, presses); presses_of_text(level, "
        "text); picture(level, history); history_in(level, lines)"),
    "light": (
        "light(level, presses); keeps(level, presses, value); common(level, presses, one, other); "
        "how_many_keep(level, presses); lit_rounds(level, presses); gained(level, presses, more)"),
    "trails": (
        "is_trail(level, presses, tick, room, value); first_trail(level, presses, tick, room); trail_depth(level, "
        "presses, tick, room); is_dark_paper(level, presses, tick, room, value); how_many_without(level, presses, "
        "tick, room); givers(level, presses, tick, room); sole_light(level, presses)"),
    "tables": (
        "is_table(level, value); table_of(level, presses); joined(level, one, other); repeats(level, presses); "
        "can_stand_for(level, one, other)"),
    "far": (
        "far_table(level, runs); far_light(level, runs, tick); times_lit(level, runs, room); first_lit(level, "
        "runs, room); last_lit(level, runs, room); far_dark_paper(level, runs, tick, room); is_far_dark(level, "
        "runs, tick, room, value)"),
    "rests": (
        "rest_table(level, presses); is_rest(level, value); rest_ahead(level, lights, rest); front_table(level, "
        "presses); is_front(level, value); front_behind(level, front, lights); lit_between(level, front, lights, "
        "rest); settled(level, presses)"),
    "endless": (
        "for_ever(level, endless); for_ever_at(level, endless, tick); keeps_for_ever(level, endless, value); "
        "stays_from(level, endless, many); changed(level, presses, tick, lights); added(level, presses, tick, "
        "lights); reach_back(level, presses, tick, lights)"),
    "houses": (
        "is_house(value); is_walk(house, value); steps_between(house, place, goal); pressed_by(house, walks); "
        "hands_light(house, walks)"),
    "hands": (
        "open_steps(house, walks, number); first_shut(house, walks); greatest_playable(house, walks); "
        "why_unplayable(house, walks); earned(house, walks); opened_by(house, walks, number, tick); debts(house, "
        "walks); put_off(walks, ticks); are_stays(house, value); far_steps(house, stays)"),
    "puzzles": (
        "shortest_walk(house, start, goal); shortest_lighting(house, start, room); state_of(house, walk); "
        "states_met(house, start); no_walk_paper(house, start, goal); is_no_walk_paper(house, start, goal, value)"),
    "counting": (
        "how_many_walks(house, start, goal, length); walk_numbered(house, start, goal, length, number); "
        "number_of_walk(house, walk)"),
    "beside": (
        "shortest_beside(house, walks, start, goal); how_many_beside(house, walks, start, goal, length)"),
    "rescue": (
        "rescue(level, presses, letters, tick, room); settled_past(level, presses, letters)"),
    "reasons": (
        "presses_in(level, presses); with_only(level, presses, lot); without(level, presses, lot); reasons(level, "
        "presses, tick, room); cuts(level, presses, tick, room); is_reason(level, presses, tick, room, value); "
        "is_cut(level, presses, tick, room, value); crossing(lots); fewest_reason(level, presses, tick, room); "
        "fewest_cut(level, presses, tick, room); sure_presses(level, presses, tick, room); idle_presses(level, "
        "presses, tick, room); how_many_light(level, presses, tick, room); alone(level, ticks, tick, room); "
        "is_added(level, presses); together(level, presses)"),
    "alike": (
        "are_alike(one, other, letters, watched); parting(one, other, letters, watched); is_parting(one, other, "
        "letters, watched, value); lighting(level, letters, room); without_doors(level, numbers); "
        "idle_doors(level, letters, watched); least_lots(level, letters, watched); is_enough(level, letters, "
        "watched, value)"),
    "horizon": (
        "fewest_time_doors(level, letters, watched); hangs_ahead(level, letters, watched); unlike_ahead(level, "
        "letters, watched, ticks); horizon(level, letters, watched)"),
    "longdoors": (
        "is_long_level(value); long_light(level, presses); near_level(level); slowed(level, many); "
        "mirrored(level); long_far_light(level, runs, tick); reach_of(level, runs, room)"),
    "layers": (
        "is_dark_level(value); with_darks(level); layers(level); are_layers(level, value); dark_ring(level); "
        "is_dark_ring(level, value)"),
    "layered": (
        "layered_history(level, presses); layered_by(level, counts, presses); is_layered_history(level, presses, "
        "value); swayed(level, one, other); layered_endless(level, endless)"),
    "founded": (
        "is_founded(level, presses, value); founded_light(level, presses, history); first_founded(level, "
        "presses); all_founded(level, presses); how_many_founded(level, presses); founded_counts(level, turn, "
        "many); agreeing(level, presses)"),
    "paradox": (
        "is_paradox(level, presses); first_paradox(level, letters); founded_ticks(level, turn); "
        "least_paradox(level, turn); forced_by(level, presses); freed_by(level, presses)"),
    "seen": (
        "agrees(level, presses, seen, value); how_many_agree(level, presses, seen); agreeing_with(level, presses, "
        "seen); sure_lights(level, presses, seen); open_lights(level, presses, seen); worth_looking(level, "
        "presses, seen); best_looks(level, presses, seen); looks_needed(level, presses, seen); tells_apart(level, "
        "presses, looks); fewest_looks(level, presses); is_needed_look(level, presses, looks, tick, room); "
        "clash(level, presses, seen); crossed(level, presses, one, other, tick)"),
    "lines": (
        "recording(level, presses); of_recording(text); good_part(text)"),
    "play": (
        "Play(level); is_deed(play, value)"),
}
METHODS_OF_PLAY = ("level(); presses(); told(); do(deed); undo(); redo(); log(); copy(); shown(); shown_at(tick); "
                   "seen_now(); otherwise(deed)")


def told_names(text):
    """For each name its arguments, `None` where none are told."""
    names = {}
    for item in text.split("; "):
        name, bracket, rest = item.partition("(")
        names[name] = [word for word in rest[:-1].split(", ") if word] if bracket else None
    return names


def arguments_of(function):
    """The names of the arguments, which all go by position and by name and have no default."""
    told = inspect.signature(function).parameters.values()
    assert all(one.kind == one.POSITIONAL_OR_KEYWORD and one.default is one.empty for one in told)
    return [one.name for one in told]


def defined_in(short):
    tree = ast.parse((PACKAGE / f"{short}.py").read_text())
    return {part.name: part for part in tree.body if isinstance(part, (ast.FunctionDef, ast.ClassDef))}


class Interface(unittest.TestCase):

    def test_each_name_is_defined_in_its_file_with_its_arguments(self):
        for short, text in INTERFACE.items():
            module = importlib.import_module(f"timedoors.{short}")
            defined = defined_in(short)
            for name, arguments in told_names(text).items():
                with self.subTest(module=short, name=name):
                    told = getattr(module, name)
                    self.assertIn(name, defined)
                    self.assertEqual(told.__module__, module.__name__)
                    if arguments is not None:
                        self.assertEqual(arguments_of(told), arguments)

    def test_each_method_is_defined_in_its_class_with_its_arguments(self):
        body = {part.name for part in defined_in("play")["Play"].body if isinstance(part, ast.FunctionDef)}
        for name, arguments in told_names(METHODS_OF_PLAY).items():
            self.assertIn(name, body)
            self.assertEqual(arguments_of(getattr(Play((1, [])), name)), arguments)
        self.assertIn("__eq__", body)

    def test_how_many_names_there_are(self):
        many = {short: len(told_names(text)) for short, text in INTERFACE.items()}
        self.assertEqual([len(many), sum(many.values())], [26, 184])


if __name__ == "__main__":
    unittest.main()
